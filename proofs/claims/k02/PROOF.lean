import PyProof.Rows.All
import Wide.All
import OpenK.AllK
import PyProof.StrLawsTight
import PyProof.StrLawsChain
import PyProof.Rows.StrItems
import PyProof.StrCalls2
import KE.KIntText
import PyProof.StrWalks
import PySem.Challenge.RW_deedloom_k02_programs_written
set_option genSizeOf false
set_option compiler.extract_closed false
set_option Elab.async false
set_option linter.all false
set_option maxRecDepth 100000
local macro_rules|`($d:definition)=>`(noncomputable $d:definition)
local macro_rules|`(tactic|omega)=>`(tactic|first|assumption|lia|omega +splitNatSub)
noncomputable section
set_option linter.all false
namespace Zq
open PySem
def zq0:=@List.length_map
def zq1:=@List.mem_cons
def zq2:=@List.mem_cons_of_mem
def zq3:=@Bool.false_ne_true
def zq4:=@List.mem_cons_self
def zq5:=@Nat.le_refl
def zq6:=@List.map_append
def zq7:=@Heap.lt_size
def zq8:=@List.length_append
def zq9:=@List.mem_singleton
def zq10:=@List.mem_append
def cj:=@List.length_cons
def cw:=@Heap.get?_push_of_some
def cx:=@List.mem_append_right
def cA:=@Nat.ne_of_lt
def cG:=@List.map_cons
def zq16:=@List.nodup_cons
def cH:=@List.size_toArray
def cI:=@Int.emod_nonneg
def zq19:=@List.getElem?_eq_some_iff
def cR:=@Bool.and_eq_true
def d9:=@List.mem_append_left
def da:=@List.getElem?_map
def dc:=@List.getElem?_eq_getElem
def dw:=@Int.emod_lt_of_pos
def dJ:=@Nat.lt_of_lt_of_le
def dM:=@Heap.get?_push_size
def dN:=@List.mem_of_getElem?
def ek:=@Nat.zero_le
def eO:=@Nat.le_trans
def eP:=@List.length_take
def f6:=@List.take_length
def fP:=@List.length_singleton
def zq33:=@List.mem_map
def zq34:=@List.all_eq_true
def fU:=@List.append_nil
def fV:=@Int.toNat_natCast
def fW:=@List.take_succ_eq_append_getElem
def fX:=@List.append_assoc
def ib:=@Bool.false_and
def jg:=@Bool.eq_iff_iff
def jh:=@List.any_cons
def zq42:=@Option.map_eq_some_iff
def ji:=@Int.eq_ofNat_of_zero_le
def jj:=@List.getElem?_eq_none
def jZ:=@Nat.lt_irrefl
def k8:=@List.getElem_mem
def k9:=@List.cons_append
def ka:=@Nat.add_assoc
def zq49:=@List.mem_range
def mG:=@Nat.min_eq_left
def mH:=@Bool.true_and
def mI:=@List.sublist_append_left
def pR:=@List.getElem?_append_right
def pS:=@List.length_drop
def pT:=@Bool.or_eq_true
def pU:=@List.getD_eq_getElem?_getD
def zq57:=@List.length_pos_iff
def pV:=@List.take_of_length_le
def pW:=@Nat.pow_le_pow_right
def pX:=@List.map_map
def rb:=@Heap.size_push
def rc:=@Nat.lt_succ_self
def rf:=@Nat.le_succ
def rg:=@List.all_cons
def rh:=@List.lookup_cons
def ri:=@Int.one_mul
def rj:=@Nat.min_eq_right
def rk:=@List.drop_of_length_le
def vH:=@Nat.le_of_lt
def vI:=@List.filterMap_cons
def vJ:=@Nat.ne_of_gt
def vK:=@Nat.le_of_eq
def vL:=@List.of_mem_zip
def vM:=@List.getElem?_append_left
def vN:=@Bool.and_false
def vO:=@List.map_nil
def vP:=@List.take_zero
def vQ:=@List.nodup_append
def vR:=@Array.toList_append
def vS:=@List.length_nil
def zq81:=@List.length_eq_zero_iff
def vT:=@List.perm_append_comm
def vU:=@List.take_append_drop
def vV:=@List.drop_eq_getElem_cons
def vW:=@Nat.add_zero
def vX:=@List.map_drop
def vY:=@List.map_take
def vZ:=@List.mem_of_mem_take
def xJ:=@List.getElem?_set_self
def xK:=@List.getElem?_replicate
def xM:=@List.length_replicate
def xN:=@Array.getElem?_toList
def xO:=@List.getElem?_cons_succ
def xP:=@List.getElem?_toArray
section
variable{Q R S T U V W X Y Z:Type}
theorem zA{A B:Q->Prop}(a):A a->B a->∃a,A a/\B a:=(⟨a,·,·⟩)
theorem zB{A B C:Q->R->Prop}(a b):A a b->B a b->C a b->∃a b,A a b/\B a b/\C a b:=(⟨a,b,·,·,·⟩)
theorem zC{A B C:Prop}:A->B->C->A/\B/\C:=(⟨·,·,·⟩)
theorem zD{A B C D:Q->R->Prop}(a b):A a b->B a b->C a b->D a b->∃a b,A a b/\B a b/\C a b/\D a b:=(⟨a,b,·,·,·,·⟩)
theorem zE{A B:Q->R->Prop}(a b):A a b->B a b->∃a b,A a b/\B a b:=(⟨a,b,·,·⟩)
theorem zF{A B C:Q->Prop}(a):A a->B a->C a->∃a,A a/\B a/\C a:=(⟨a,·,·,·⟩)
theorem zG{A B C D:Q->Prop}(a):A a->B a->C a->D a->∃a,A a/\B a/\C a/\D a:=(⟨a,·,·,·,·⟩)
theorem zH{A B C D:Prop}:A->B->C->D->A/\B/\C/\D:=(⟨·,·,·,·⟩)
theorem zI{A B:Q->R->S->Prop}(a b c):A a b c->B a b c->∃a b c,A a b c/\B a b c:=(⟨a,b,c,·,·⟩)
theorem zJ{A B C D E:Prop}:A->B->C->D->E->A/\B/\C/\D/\E:=(⟨·,·,·,·,·⟩)
theorem zK{A B C D:Q->R->S->Prop}(a b c):A a b c->B a b c->C a b c->D a b c->∃a b c,A a b c/\B a b c/\C a b c/\D a b c:=(⟨a,b,c,·,·,·,·⟩)
theorem zL{A:Q->R->S->T->Prop}(a b c d):A a b c d->∃a b c d,A a b c d:=(⟨a,b,c,d,·⟩)
theorem zM{A B C D E F:Q->R->S->Prop}(a b c):A a b c->B a b c->C a b c->D a b c->E a b c->F a b c->∃a b c,A a b c/\B a b c/\C a b c/\D a b c/\E a b c/\F a b c:=(⟨a,b,c,·,·,·,·,·,·⟩)
theorem zN{A:Q->R->Prop}(a b):A a b->∃a b,A a b:=(⟨a,b,·⟩)
theorem zO{A B C D E F H:Q->R->S->T->U->Prop}(a b c d e):A a b c d e->B a b c d e->C a b c d e->D a b c d e->E a b c d e->F a b c d e->H a b c d e->∃a b c d e,A a b c d e/\B a b c d e/\C a b c d e/\D a b c d e/\E a b c d e/\F a b c d e/\H a b c d e:=(⟨a,b,c,d,e,·,·,·,·,·,·,·⟩)
theorem zP{A B C D E:Q->R->Prop}(a b):A a b->B a b->C a b->D a b->E a b->∃a b,A a b/\B a b/\C a b/\D a b/\E a b:=(⟨a,b,·,·,·,·,·⟩)
theorem zQ{A B C D E:Q->R->S->Prop}(a b c):A a b c->B a b c->C a b c->D a b c->E a b c->∃a b c,A a b c/\B a b c/\C a b c/\D a b c/\E a b c:=(⟨a,b,c,·,·,·,·,·⟩)
theorem zR{A:Q->R->S->T->U->V->W->X->Prop}(a b c d e f g i):A a b c d e f g i->∃a b c d e f g i,A a b c d e f g i:=(⟨a,b,c,d,e,f,g,i,·⟩)
theorem zT{A B C D E F:Prop}:A->B->C->D->E->F->A/\B/\C/\D/\E/\F:=(⟨·,·,·,·,·,·⟩)
theorem zU{A B C:Q->R->S->Prop}(a b c):A a b c->B a b c->C a b c->∃a b c,A a b c/\B a b c/\C a b c:=(⟨a,b,c,·,·,·⟩)
theorem zV{A B:Q->R->S->T->Prop}(a b c d):A a b c d->B a b c d->∃a b c d,A a b c d/\B a b c d:=(⟨a,b,c,d,·,·⟩)
theorem zW{A:Q->R->S->Prop}(a b c):A a b c->∃a b c,A a b c:=(⟨a,b,c,·⟩)
theorem zX{A B C D E:Q->R->S->T->Prop}(a b c d):A a b c d->B a b c d->C a b c d->D a b c d->E a b c d->∃a b c d,A a b c d/\B a b c d/\C a b c d/\D a b c d/\E a b c d:=(⟨a,b,c,d,·,·,·,·,·⟩)
theorem zY{A B C:Q->R->S->T->U->V->W->Prop}(a b c d e f g):A a b c d e f g->B a b c d e f g->C a b c d e f g->∃a b c d e f g,A a b c d e f g/\B a b c d e f g/\C a b c d e f g:=(⟨a,b,c,d,e,f,g,·,·,·⟩)
theorem zZ{A B C D E F:Q->R->Prop}(a b):A a b->B a b->C a b->D a b->E a b->F a b->∃a b,A a b/\B a b/\C a b/\D a b/\E a b/\F a b:=(⟨a,b,·,·,·,·,·,·⟩)
theorem za{A:Q->R->S->T->U->V->W->X->Y->Prop}(a b c d e f g i j):A a b c d e f g i j->∃a b c d e f g i j,A a b c d e f g i j:=(⟨a,b,c,d,e,f,g,i,j,·⟩)
theorem zb{A B C D E F H:Prop}:A->B->C->D->E->F->H->A/\B/\C/\D/\E/\F/\H:=(⟨·,·,·,·,·,·,·⟩)
theorem zc{A B C D E F H I J:Prop}:A->B->C->D->E->F->H->I->J->A/\B/\C/\D/\E/\F/\H/\I/\J:=(⟨·,·,·,·,·,·,·,·,·⟩)
theorem zd{A:Q->R->S->T->U->Prop}(a b c d e):A a b c d e->∃a b c d e,A a b c d e:=(⟨a,b,c,d,e,·⟩)
theorem ze{A B C D E F:Q->R->S->T->U->Prop}(a b c d e):A a b c d e->B a b c d e->C a b c d e->D a b c d e->E a b c d e->F a b c d e->∃a b c d e,A a b c d e/\B a b c d e/\C a b c d e/\D a b c d e/\E a b c d e/\F a b c d e:=(⟨a,b,c,d,e,·,·,·,·,·,·⟩)
theorem zf{A B C D E F H:Q->R->S->T->U->V->W->Prop}(a b c d e f g):A a b c d e f g->B a b c d e f g->C a b c d e f g->D a b c d e f g->E a b c d e f g->F a b c d e f g->H a b c d e f g->∃a b c d e f g,A a b c d e f g/\B a b c d e f g/\C a b c d e f g/\D a b c d e f g/\E a b c d e f g/\F a b c d e f g/\H a b c d e f g:=(⟨a,b,c,d,e,f,g,·,·,·,·,·,·,·⟩)
theorem zg{A B C D E F H I:Prop}:A->B->C->D->E->F->H->I->A/\B/\C/\D/\E/\F/\H/\I:=(⟨·,·,·,·,·,·,·,·⟩)
theorem zi{A B:Q->R->S->T->U->V->W->Prop}(a b c d e f g):A a b c d e f g->B a b c d e f g->∃a b c d e f g,A a b c d e f g/\B a b c d e f g:=(⟨a,b,c,d,e,f,g,·,·⟩)
theorem zj{A:Q->R->S->T->U->V->W->X->Y->Z->Prop}(a b c d e f g i j l):A a b c d e f g i j l->∃a b c d e f g i j l,A a b c d e f g i j l:=(⟨a,b,c,d,e,f,g,i,j,l,·⟩)
theorem zk{A B C D E F H I J K:Prop}:A->B->C->D->E->F->H->I->J->K->A/\B/\C/\D/\E/\F/\H/\I/\J/\K:=(⟨·,·,·,·,·,·,·,·,·,·⟩)
theorem zl{A B C D E F H I:Q->R->S->T->U->V->W->Prop}(a b c d e f g):A a b c d e f g->B a b c d e f g->C a b c d e f g->D a b c d e f g->E a b c d e f g->F a b c d e f g->H a b c d e f g->I a b c d e f g->∃a b c d e f g,A a b c d e f g/\B a b c d e f g/\C a b c d e f g/\D a b c d e f g/\E a b c d e f g/\F a b c d e f g/\H a b c d e f g/\I a b c d e f g:=(⟨a,b,c,d,e,f,g,·,·,·,·,·,·,·,·⟩)
theorem zm{A B C D E:Q->R->S->T->U->V->W->X->Prop}(a b c d e f g i):A a b c d e f g i->B a b c d e f g i->C a b c d e f g i->D a b c d e f g i->E a b c d e f g i->∃a b c d e f g i,A a b c d e f g i/\B a b c d e f g i/\C a b c d e f g i/\D a b c d e f g i/\E a b c d e f g i:=(⟨a,b,c,d,e,f,g,i,·,·,·,·,·⟩)
theorem zn{A B C D E F H I J:Q->R->S->T->U->V->W->X->Y->Z->Prop}(a b c d e f g i j l):A a b c d e f g i j l->B a b c d e f g i j l->C a b c d e f g i j l->D a b c d e f g i j l->E a b c d e f g i j l->F a b c d e f g i j l->H a b c d e f g i j l->I a b c d e f g i j l->J a b c d e f g i j l->∃a b c d e f g i j l,A a b c d e f g i j l/\B a b c d e f g i j l/\C a b c d e f g i j l/\D a b c d e f g i j l/\E a b c d e f g i j l/\F a b c d e f g i j l/\H a b c d e f g i j l/\I a b c d e f g i j l/\J a b c d e f g i j l:=(⟨a,b,c,d,e,f,g,i,j,l,·,·,·,·,·,·,·,·,·⟩)
theorem zo{A B C D E:Q->Prop}(a):A a->B a->C a->D a->E a->∃a,A a/\B a/\C a/\D a/\E a:=(⟨a,·,·,·,·,·⟩)
theorem zq{A:Q->R->S->T->U->V->Prop}(a b c d e f):A a b c d e f->∃a b c d e f,A a b c d e f:=(⟨a,b,c,d,e,f,·⟩)
theorem zr{A B C D E F H I J K L:Prop}:A->B->C->D->E->F->H->I->J->K->L->A/\B/\C/\D/\E/\F/\H/\I/\J/\K/\L:=(⟨·,·,·,·,·,·,·,·,·,·,·⟩)
theorem zt{A:Q->R->S->T->U->V->W->Prop}(a b c d e f g):A a b c d e f g->∃a b c d e f g,A a b c d e f g:=(⟨a,b,c,d,e,f,g,·⟩)
end
section
variable{Q R S T:Type}{g:Prop}
theorem eQ02{A B C:Prop}(k:A->B->C->g)(h:A/\B/\C):g:=let ⟨hA,hB,hC⟩:=h;k hA hB hC
theorem eQ03{A B C D:Prop}(k:A->B->C->D->g)(h:A/\B/\C/\D):g:=let ⟨hA,hB,hC,hD⟩:=h;k hA hB hC hD
theorem eQ04{A B C D E:Prop}(k:A->B->C->D->E->g)(h:A/\B/\C/\D/\E):g:=let ⟨hA,hB,hC,hD,hE⟩:=h;k hA hB hC hD hE
theorem eQ11{A B:Q->Prop}(k:∀a,A a->B a->g)(h:∃a,A a/\B a):g:=let ⟨a,hA,hB⟩:=h;k a hA hB
theorem eQ12{A B C:Q->Prop}(k:∀a,A a->B a->C a->g)(h:∃a,A a/\B a/\C a):g:=let ⟨a,hA,hB,hC⟩:=h;k a hA hB hC
theorem eQ13{A B C D:Q->Prop}(k:∀a,A a->B a->C a->D a->g)(h:∃a,A a/\B a/\C a/\D a):g:=let ⟨a,hA,hB,hC,hD⟩:=h;k a hA hB hC hD
theorem eQ14{A B C D E:Q->Prop}(k:∀a,A a->B a->C a->D a->E a->g)(h:∃a,A a/\B a/\C a/\D a/\E a):g:=let ⟨a,hA,hB,hC,hD,hE⟩:=h;k a hA hB hC hD hE
theorem eQ20{A:Q->R->Prop}(k:∀a b,A a b->g)(h:∃a b,A a b):g:=let ⟨a,b,hA⟩:=h;k a b hA
theorem eQ21{A B:Q->R->Prop}(k:∀a b,A a b->B a b->g)(h:∃a b,A a b/\B a b):g:=let ⟨a,b,hA,hB⟩:=h;k a b hA hB
theorem eQ22{A B C:Q->R->Prop}(k:∀a b,A a b->B a b->C a b->g)(h:∃a b,A a b/\B a b/\C a b):g:=let ⟨a,b,hA,hB,hC⟩:=h;k a b hA hB hC
theorem eQ23{A B C D:Q->R->Prop}(k:∀a b,A a b->B a b->C a b->D a b->g)(h:∃a b,A a b/\B a b/\C a b/\D a b):g:=let ⟨a,b,hA,hB,hC,hD⟩:=h;k a b hA hB hC hD
theorem eQ24{A B C D E:Q->R->Prop}(k:∀a b,A a b->B a b->C a b->D a b->E a b->g)(h:∃a b,A a b/\B a b/\C a b/\D a b/\E a b):g:=let ⟨a,b,hA,hB,hC,hD,hE⟩:=h;k a b hA hB hC hD hE
theorem eQ30{A:Q->R->S->Prop}(k:∀a b c,A a b c->g)(h:∃a b c,A a b c):g:=let ⟨a,b,c,hA⟩:=h;k a b c hA
theorem eQ31{A B:Q->R->S->Prop}(k:∀a b c,A a b c->B a b c->g)(h:∃a b c,A a b c/\B a b c):g:=let ⟨a,b,c,hA,hB⟩:=h;k a b c hA hB
theorem eQ32{A B C:Q->R->S->Prop}(k:∀a b c,A a b c->B a b c->C a b c->g)(h:∃a b c,A a b c/\B a b c/\C a b c):g:=let ⟨a,b,c,hA,hB,hC⟩:=h;k a b c hA hB hC
theorem eQ33{A B C D:Q->R->S->Prop}(k:∀a b c,A a b c->B a b c->C a b c->D a b c->g)(h:∃a b c,A a b c/\B a b c/\C a b c/\D a b c):g:=let ⟨a,b,c,hA,hB,hC,hD⟩:=h;k a b c hA hB hC hD
theorem eQ34{A B C D E:Q->R->S->Prop}(k:∀a b c,A a b c->B a b c->C a b c->D a b c->E a b c->g)(h:∃a b c,A a b c/\B a b c/\C a b c/\D a b c/\E a b c):g:=let ⟨a,b,c,hA,hB,hC,hD,hE⟩:=h;k a b c hA hB hC hD hE
theorem eQ40{A:Q->R->S->T->Prop}(k:∀a b c d,A a b c d->g)(h:∃a b c d,A a b c d):g:=let ⟨a,b,c,d,hA⟩:=h;k a b c d hA
theorem eQ41{A B:Q->R->S->T->Prop}(k:∀a b c d,A a b c d->B a b c d->g)(h:∃a b c d,A a b c d/\B a b c d):g:=let ⟨a,b,c,d,hA,hB⟩:=h;k a b c d hA hB
theorem eQ42{A B C:Q->R->S->T->Prop}(k:∀a b c d,A a b c d->B a b c d->C a b c d->g)(h:∃a b c d,A a b c d/\B a b c d/\C a b c d):g:=let ⟨a,b,c,d,hA,hB,hC⟩:=h;k a b c d hA hB hC
theorem eQ43{A B C D:Q->R->S->T->Prop}(k:∀a b c d,A a b c d->B a b c d->C a b c d->D a b c d->g)(h:∃a b c d,A a b c d/\B a b c d/\C a b c d/\D a b c d):g:=let ⟨a,b,c,d,hA,hB,hC,hD⟩:=h;k a b c d hA hB hC hD
theorem eQ44{A B C D E:Q->R->S->T->Prop}(k:∀a b c d,A a b c d->B a b c d->C a b c d->D a b c d->E a b c d->g)(h:∃a b c d,A a b c d/\B a b c d/\C a b c d/\D a b c d/\E a b c d):g:=let ⟨a,b,c,d,hA,hB,hC,hD,hE⟩:=h;k a b c d hA hB hC hD hE
end
@[inline] def zTt(v:Option Lean.Term)(q:Array (Lean.TSyntax `Lean.Parser.Tactic.rcasesPatLo))(ps:Array (Lean.TSyntax `rintroPat)):Lean.MacroM (Lean.TSyntax `tactic):=do
 let n:=q.size
 let mut t<-match v with
  |none=>`(tactic|(intro h;rcases h with ⟨$q,*⟩))
  |some v=>`(tactic|rcases $v:term with ⟨$q,*⟩)
 if ps.size>0 then t<-`(tactic|$t:tactic<;>rintro $ps*)
 for s in [2:n] do
  let mut p:=#[]
  let mut hs:=#[]
  for x in q[:if s+1=n then n else s] do
   if x.raw[0][0].getNumArgs==1&&x.raw[0][0][0][0].getId==`rfl then
    let h:=Lean.mkIdent (<-Lean.MonadQuotation.addMacroScope (.mkSimple s!"h{hs.size}"))
    hs:=hs.push h
    p:=p.push (<-`(rintroPat|$h:ident))
   else p:=p.push (<-`(rintroPat|($x:rcasesPatLo)))
  if s+1<n then
   let r:=q[s:].toArray
   p:=p.push (<-`(rintroPat|⟨$r,*⟩))
  p:=p++ps
  let mut u<-`(tactic|rintro $p*)
  if hs.size>0 then u<-`(tactic|$u:tactic<;>subst $hs*)
  for i in [0:s+1] do
   if i<5&&s-i<5 then
    let nm:=Lean.mkIdent (.mkSimple s!"eQ{i}{s-i}")
    match v with
    |none=>t<-`(tactic|first|(refine $nm ?_;$u:tactic)|$t:tactic)
    |some v=>if v.raw.isIdent then t<-`(tactic|first|(refine $nm ?_ $v;(try clear $v);$u:tactic)|$t:tactic) else t<-`(tactic|first|(refine $nm ?_ $v;$u:tactic)|$t:tactic)
 pure t
theorem Jk{p:Prop}(h:p:=by decide +kernel):p:=h
theorem Jl{p:Prop}(h:p:=by kernel_rfl):p:=h
theorem Jm{p:Prop}(h:p:=by decide):p:=h
theorem Jn{p:Prop}(h:p:=by omega):p:=h
theorem Jo{p:Prop}(h:p:=by simp):p:=h
theorem Jp{p:Prop}(h:p:=by rfl):p:=h
end Zq
open Zq
local macro_rules|`(tactic|obtain ⟨$p,*⟩:=$v)=>if p.getElems.size<3 then Lean.Macro.throwUnsupported else zTt v p #[]
local macro_rules|`(tactic|rintro $p*)=>do
 let some t:=p.findIdx? fun x=>x.raw[0].isOfKind `Lean.Parser.Tactic.rcasesPat.tuple&&x.raw[0][1].getSepArgs.size>2|Lean.Macro.throwUnsupported
 let b<-zTt none (p[t]!.raw[0][1].getSepArgs.map (⟨·⟩)) p[t+1:].toArray
 let a:=p[:t].toArray
 if t>0 then `(tactic|(rintro $a*;$b:tactic)) else pure b
section
open PySem PySem.Spec PyProof.Rows
namespace L2
abbrev Key:=Sum Int Str
def gj:Key->Value->Bool
 | .inl k,v=>Value.isInt k v
 | .inr x,v=>Value.isStrOf x v
def xV(w:World):Key->Int
 | .inl k=>hashInt k
 | .inr x=>hashStr w x
theorem bc:∀{k:Key} {v:Value},gj k v=true->(∃i t,k=Sum.inl i/\v=Value.int i t)\/(∃x t,k=Sum.inr x/\v=Value.str x t)
 | .inl i,v,h=>by
  obtain ⟨t,e⟩:=Value.isInt_shape (k:=i) (v:=v) h;exact .inl (zE i t rfl e)
 | .inr x,v,h=>by obtain ⟨t,e⟩:=Value.isStrOf_shape (x:=x) (v:=v) h;exact .inr (zE x t rfl e)
theorem m5(i:Int)(t:Tok):gj (.inl i) (.int i t)=true:=by simp [gj,Value.isInt]
theorem m6(x:Str)(t:Tok):gj (.inr x) (.str x t)=true:=by simp [gj,Value.isStrOf]
theorem tW(a b:Int):decide ((Sum.inl a:Key)=Sum.inl b)=(a==b):=by
 by_cases e:a=b
 ·subst e;simp
 ·have h:¬(Sum.inl a:Key)=Sum.inl b:=fun q=>e (Sum.inl.inj q);rw [decide_eq_false h];exact (beq_eq_false_iff_ne.mpr e).symm
theorem u0(a b:Str):decide ((Sum.inr a:Key)=Sum.inr b)=decide (a=b):=by
 by_cases e:a=b
 ·subst e;simp
 ·have h:¬(Sum.inr a:Key)=Sum.inr b:=fun q=>e (Sum.inr.inj q);rw [decide_eq_false h,decide_eq_false e]
theorem tX(a:Int)(b:Str):decide ((Sum.inl a:Key)=Sum.inr b)=false:=decide_eq_false (fun q=>nomatch q)
theorem tZ(a:Str)(b:Int):decide ((Sum.inr a:Key)=Sum.inl b)=false:=decide_eq_false (fun q=>nomatch q)
def bS(prog:Program)(w:World):PySem.KeyKind prog w Key where
 is:=gj
 hash:=xV w
 inj:=fun v a b ha hb=>by
  rcases bc ha with ⟨i,t,rfl,rfl⟩ | ⟨x,t,rfl,rfl⟩
  ·rcases bc hb with ⟨j,u,rfl,e⟩ | ⟨y,u,rfl,e⟩
   ·injection e with e1 _;rw [e1]
   ·exact nomatch e
  ·rcases bc hb with ⟨j,u,rfl,e⟩ | ⟨y,u,rfl,e⟩
   ·exact nomatch e
   ·injection e with e1 _;rw [e1]
 byValue:=fun k v h=>by rcases bc h with ⟨i,t,rfl,rfl⟩ | ⟨x,t,rfl,rfl⟩<;>rfl
 pyHash:=fun hv h=>by
  rcases bc hv with ⟨i,t,rfl,rfl⟩ | ⟨x,t,rfl,rfl⟩
  ·exact wpAny_pyHash_int h
  ·exact wpAny_pyHash_str h
 eqBool:=fun hu hv h=>by
  rcases bc hu with ⟨i,t,rfl,rfl⟩ | ⟨x,t,rfl,rfl⟩
  ·rcases bc hv with ⟨j,u,rfl,rfl⟩ | ⟨y,u,rfl,rfl⟩
   ·rw [tW] at h;exact wpAny_eqBool_int h
   ·rw [tX] at h;exact SeqAt.EqAt.int_str i t y u _ _ _ _ h
  ·rcases bc hv with ⟨j,u,rfl,rfl⟩ | ⟨y,u,rfl,rfl⟩
   ·rw [tZ] at h;exact SeqAt.EqAt.str_int x t j u _ _ _ _ h
   ·rw [u0] at h;exact wpAny_eqBool_str h
 «strs»:=fun k x t v h=>by
  rcases bc h with ⟨i,u,rfl,e⟩ | ⟨y,u,rfl,e⟩
  ·exact nomatch e
  ·injection e with e1 _;subst e1
   cases v<;>rfl
theorem iH(prog:Program)(w:World)(i:Int)(t:Tok):(bS prog w).is (.inl i) (.int i t)=true:=m5 i t
theorem iI(prog:Program)(w:World)(x:Str)(t:Tok):(bS prog w).is (.inr x) (.str x t)=true:=m6 x t
end L2
namespace L2
inductive V where
 |non | bl (b:Bool) | int (i:Int) | str (x:Str) | byt (b:Array UInt8) | flt (b:UInt64) | ref (a:Addr) | ty (n:String)
 deriving DecidableEq
def RelV:V->Value->Prop
 | .non,u=>u=Value.none
 | .bl b,u=>u=Value.bool b
 | .int i,u=>∃t,u=Value.int i t
 | .str x,u=>∃t,u=Value.str x t
 | .byt b,u=>∃t,u=Value.bytes b t
 | .flt b,u=>∃t,u=Value.float b t
 | .ref a,u=>u=Value.ref a
 | .ty n,u=>u=Value.type n
abbrev Vals:List V->List Value->Prop:=Paired RelV
theorem Vals.length{xs:List V}{us:List Value}(r:Vals xs us):xs.length=us.length:=Paired.length r
theorem Vals.get:∀{xs:List V} {us:List Value} {i:Nat} {x:V},Vals xs us->xs[i]?=some x->∃u,us[i]?=some u/\RelV x u
 |_,_,_,_,.nil,e=>by simp at e
 |_,_,0,_,.cons r _,e=>by simp at e;subst e;exact zA _ rfl r
 |_,_,i+1,x,.cons _ t,e=>by obtain ⟨u,h1,h2⟩:=Vals.get (i:=i) (x:=x) t (by simpa using e);exact zA u (by simpa using h1) h2
theorem Vals.append:∀{xs ys:List V} {us ws:List Value},Vals xs us->Vals ys ws->Vals (xs++ys) (us++ws)
 |_,_,_,_,.nil,s=>s
 |_,_,_,_,.cons r t,s=>.cons r (Vals.append t s)
theorem Vals.take:∀{xs:List V} {us:List Value} (n:Nat),Vals xs us->Vals (xs.take n) (us.take n)
 |_,_,0,_=>.nil
 |_,_,_+1,.nil=>.nil
 |_,_,n+1,.cons r t=>.cons r (Vals.take n t)
theorem Vals.drop:∀{xs:List V} {us:List Value} (n:Nat),Vals xs us->Vals (xs.drop n) (us.drop n)
 |_,_,0,r=>r
 |_,_,_+1,.nil=>.nil
 |_,_,n+1,.cons _ t=>Vals.drop n t
def RelO:Option V->Option Value->Prop
 |some v,some u=>RelV v u
 |none,none=>True
 |_,_=>False
def KV{κ:Type}:List (κ×V)->List (κ×Value)->Prop:=Paired fun (p:κ×V) (q:κ×Value)=>p.1=q.1/\RelV p.2 q.2
def kV:Key->V
 | .inl i=>.int i
 | .inr x=>.str x
inductive HO where
 /-- a list -/
 |lst (xs:List V)
 /-- a tuple (never changes) -/
 |tup (xs:List V)
 /-- a dict whose keys are ints and texts;one whose keys are tuples of ints and texts (the empty one is both) -/
 |dK (kvs:List (Key×V)) | dT (kvs:List (List Key×V))
 /-- a set of ints: its members,its size -/
 |set (S:Int->Bool) (n:Nat)
 /-- an instance of the class at C,its dict at dx,its attributes -/
 |ins (C dx:Addr) (fs:List (Str×V))
 /-- the dict of the instance at x -/
 |own (x:Addr)
 /-- the dict of an exception -/
 |xd (fs:List (Str×V))
 /-- a bound method,f of x -/
 |met (f x:Addr)
 /-- a range object lo,lo+1,.. below hi -/
 |rng (lo hi:Int)
 /-- a thing that is known to the object (the script;a dict while a loop walks it): read,never written while it is so -/
 |frz (o:Obj) (u:HO)
 /-- a code object's table -/
 |tbl (ps:Array Value)
 /-- any other thing,by what is true of its one object (a def of one's own: SetO a S n:=HO.ext fun h=>..) -/
 |ext (φ:Heap->Prop)
abbrev Hp:=Addr->Option HO
variable {b:Addr} {u:HO}
def upd(H:Hp)(a:Addr)(o:HO):Hp:=fun b=>if b=a then some o else H b
theorem upd_same{H:Hp}{a:Addr}{o:HO}:upd H a o a=some o:=by unfold upd;rw [if_pos rfl]
theorem aC{H:Hp}{a:Addr}{o:HO}(h:b≠a):upd H a o b=H b:=by unfold upd;rw [if_neg h]
theorem du{H:Hp}{a:Addr}{o:HO}:upd (upd H a o) a u=upd H a u:=by funext b;unfold upd;split<;>rfl
theorem iL{H:Hp}{a:Addr}{o:HO}(h:H a=some o)(h':H b=some u)(d:o≠u):a≠b:=by intro e;subst e;rw [h] at h';exact d (Option.some.inj h')
theorem aw{H:Hp}{a:Addr}{o:HO}(h:H a=some o)(h':H b=none):a≠b:=by intro e;subst e;rw [h] at h';cases h'
section
variable (P:Program) (w:World)
def ObjOk(H:Hp)(h:Heap)(a:Addr):HO->Prop
 | .lst xs=>xs.length<=sizeLine/\∃(its:List Value)(n:Nat),Vals xs its/\h.get? a=some {cls:=.type "list",data:=.seq its.toArray n}
 | .tup xs=>xs.length<=sizeLine/\∃its:List Value,Vals xs its/\IsTup h a its.toArray
 | .dK kvs=>kvs.length<=sizeLine/\(a==sysModules)=false/\∃vs,KV kvs vs/\h.DictOf (bS P w) a vs
 | .dT kvs=>kvs.length<=sizeLine/\(a==sysModules)=false/\∃xs:List (List Key×Addr×Value),
   Paired (fun (p:List Key×V) (q:List Key×Addr×Value)=>p.1=q.1/\H q.2.1=some (.tup (p.1.map kV))/\RelV p.2 q.2.2) kvs xs/\
   ∃o es ep,h.get? a=some o/\o.ExactDict/\o.data=.dict es ep/\es.toList=xs.map (entryOfKey (tupleKind (bS P w)))/\(xs.map (·.1)).Nodup
 | .set S n=>h.SetOf (intKind P w) a S n
 | .ins C dx fs=>H dx=some (.own a)/\fs.length<=1000/\dx≠a/\h.get? a=some (W.instObj C dx)/\
   ∃mA,h.Ns1 dx mA/\(∀f,RelO (fs.lookup f) (mA f))/\PySem.Within mA (fs.map (·.1))
 | .own _=>∃o,h.get? a=some o
 | .xd fs=>∃mA,h.Ns1 a mA/\∀f,RelO (fs.lookup f) (mA f)
 | .rng lo hi=>∃t u v,h.get? a=some {cls:=.type "range",data:=.fields #[.int lo t,.int hi u,.int 1 v]}
 | .frz o u=>h.get? a=some o/\ObjOk H h a u
 | .tbl ps=>h.get? a=some {cls:=.none,data:=.fields ps}
 | .met f x=>h.get? a=some (W.methodObj (.ref f) (.ref x))
 | .ext φ=>φ h/\(∃o,h.get? a=some o)/\∀h1 h2:Heap,φ h1->(∀o,h1.get? a=some o->h2.get? a=some o)->φ h2
def HOk(H:Hp)(h:Heap):Prop:=∀a o,H a=some o->ObjOk P w H h a o
end
section
variable {P:Program} {w:World} {H H':Hp} {h h':Heap} {a:Addr} {o:HO}
theorem ObjOk.lt(x:ObjOk P w H h a o):a<h.objs.size:=by
 cases o with
 |lst xs=>obtain ⟨_,_,_,_,e⟩:=x;exact zq7 e
 |tup xs=>obtain ⟨_,_,_,p⟩:=x;exact p.lt
 |dK kvs=>obtain ⟨_,_,_,_,o,_,_,e,_⟩:=x;exact zq7 e
 |dT kvs=>obtain ⟨_,_,_,_,o,_,_,e,_⟩:=x;exact zq7 e
 |set S n=>obtain ⟨o,_,_,_,e,_⟩:=x;exact zq7 e
 |ins C dx fs=>obtain ⟨_,_,_,e,_⟩:=x;exact zq7 e
 |own y=>obtain ⟨_,e⟩:=x;exact zq7 e
 |xd fs=>obtain ⟨_,⟨_,_,_,e,_⟩,_⟩:=x;exact zq7 e
 |rng lo hi=>obtain ⟨_,_,_,e⟩:=x;exact zq7 e
 |frz ob u=>obtain ⟨e,_⟩:=x;exact zq7 e
 |tbl ps=>exact zq7 (show h.get? a=some _ from x)
 |met f y=>exact zq7 (show h.get? a=some _ from x)
 |ext φ=>obtain ⟨_,⟨_,e⟩,_⟩:=x;exact zq7 e
theorem Paired.mapP{α β:Type}{F G:α->β->Prop}:∀{l₁:List α} {l₂:List β},Paired F l₁ l₂->(∀a b,F a b->G a b)->Paired G l₁ l₂
 |_,_,.nil,_=>.nil
 |_,_,.cons r t,f=>.cons (f _ _ r) (Paired.mapP t f)
theorem ObjOk.stay(x:ObjOk P w H h a o)(k:∀b u,(b=a\/H b=some (.own a))->h.get? b=some u->h'.get? b=some u)
  (ho:∀b,H b=some (.own a)->H' b=some (.own a)) (ht:∀b xs,H b=some (.tup xs)->H' b=some (.tup xs)):ObjOk P w H' h' a o:=by
 induction o with
 |lst xs=>obtain ⟨z,its,n,r,e⟩:=x;exact ⟨z,zE its n r (k _ _ (.inl rfl) e)⟩
 |tup xs=>obtain ⟨z,its,r,ob,e,c⟩:=x;exact ⟨z,zA its r (zA ob (k _ _ (.inl rfl) e) c)⟩
 |dK kvs=>obtain ⟨z,y,vs,r,ob,es,ep,e,c⟩:=x;exact zC z y (zA vs r (zI ob es ep (k _ _ (.inl rfl) e) c))
 |dT kvs=>
  obtain ⟨z,y,xs,r,ob,es,ep,e,c⟩:=x;exact zC z y (zA xs (Paired.mapP r fun p q z=>zC z.1 (ht _ _ z.2.1) z.2.2) (zI ob es ep (k _ _ (.inl rfl) e) c))
 |set S n=>obtain ⟨ob,es,ep,t,e,c⟩:=x;exact zV ob es ep t (k _ _ (.inl rfl) e) c
 |ins C dx fs=>
  obtain ⟨d,z,ne,e,mA,⟨od,es,ep,e2,c⟩,r⟩:=x;exact zJ (ho _ d) z ne (k _ _ (.inl rfl) e) (zA mA (zI od es ep (k _ _ (.inr d) e2) c) r)
 |own y=>obtain ⟨ob,e⟩:=x;exact ⟨ob,k _ _ (.inl rfl) e⟩
 |xd fs=>obtain ⟨mA,⟨od,es,ep,e,c⟩,r⟩:=x;exact zA mA (zI od es ep (k _ _ (.inl rfl) e) c) r
 |rng lo hi=>obtain ⟨t,u,v,e⟩:=x;exact zW t u v (k _ _ (.inl rfl) e)
 |frz ob u ih=>obtain ⟨e,q⟩:=x;exact ⟨k _ _ (.inl rfl) e,ih q⟩
 |tbl ps=>
  have e:h.get? a=some {cls:=.none,data:=.fields ps}:=x;show h'.get? a=some {cls:=.none,data:=.fields ps};exact k a _ (.inl rfl) e
 |met f y=>
  have e:h.get? a=some (W.methodObj (.ref f) (.ref y)):=x;show h'.get? a=some (W.methodObj (.ref f) (.ref y));exact k a _ (.inl rfl) e
 |ext φ=>obtain ⟨p,⟨o,e⟩,st⟩:=x;exact zC (st _ _ p fun o q=>k _ _ (.inl rfl) q) ⟨o,k _ _ (.inl rfl) e⟩ st
theorem HOk.lt(x:HOk P w H h)(e:H a=some o):a<h.objs.size:=(x a o e).lt
theorem HOk.fresh(x:HOk P w H h)(e:h.objs.size<=a):H a=none:=by
 cases q:H a with
 |none=>rfl
 |some u=>exact absurd (dJ (x.lt q) e) (jZ _)
theorem HOk.kept(x:HOk P w H h)(k:∀b u,h.get? b=some u->h'.get? b=some u):HOk P w H h':=fun a o e=>(x a o e).stay (fun b u _ q=>k b u q) (fun _ q=>q) fun _ _ q=>q
theorem HOk.laid(x:HOk P w H h)(k:∀b u,h.get? b=some u->h'.get? b=some u)(hp:h.objs.size<=a)(new:ObjOk P w (upd H a o) h' a o):HOk P w (upd H a o) h':=fun b u e=>by
 have hn:=x.fresh hp
 by_cases hb:b=a
 ·subst hb;rw [upd_same] at e;cases e;exact new
 ·rw [aC hb] at e;exact (x b u e).stay (fun c v _ q=>k c v q) (fun c q=>by rw [aC (aw q hn)];exact q) fun c xs q=>by rw [aC (aw q hn)];exact q
end
def Rd(H:Hp)(a:Addr)(u:HO):Prop:=H a=some u\/∃o,H a=some (.frz o u)
theorem Rd.ok{P:Program}{w:World}{H:Hp}{h:Heap}{a:Addr}(r:Rd H a u)(x:HOk P w H h):ObjOk P w H h a u:=by
 rcases r with r | ⟨o,r⟩
 ·exact x a u r
 ·obtain ⟨_,q⟩:=x a _ r;exact q
def Mut:Option HO->Prop
 |some (.lst _)=>True
 |some (.dK _)=>True
 |some (.dT _)=>True
 |some (.set _ _)=>True
 |some (.ins _ _ _)=>True
 |some (.ext _)=>True
 |_=>False
section
variable {P:Program} {w:World} {H:Hp} {h h':Heap} {x e:Addr} {o':HO}
theorem HOk.write(ok:HOk P w H h)(mu:Mut (H x))(he:e=x\/H e=some (.own x))(k:∀b u,b≠e->h.get? b=some u->h'.get? b=some u)(heo:∃u,h'.get? e=some u)
  (new:ObjOk P w (upd H x o') h' x o'):HOk P w (upd H x o') h':=fun b u q=>by
 have nown:∀c y,H c=some (.own y)->c≠x:=fun c y r z=>by subst z;rw [r] at mu;exact mu
 have ntup:∀c xs,H c=some (.tup xs)->c≠x:=fun c xs r z=>by subst z;rw [r] at mu;exact mu
 by_cases hb:b=x
 ·subst hb;rw [upd_same] at q;cases q;exact new
 ·rw [aC hb] at q
  by_cases hbe:b=e
  ·have q':H b=some (.own x):=by
    rcases he with z | z
    ·exact absurd (hbe.trans z) hb
    ·rw [hbe];exact z
   rw [q] at q';cases q';obtain ⟨v,hv⟩:=heo;exact ⟨v,by rw [hbe];exact hv⟩
  ·refine (ok b u q).stay (fun c v hc r=>k c v ?_ r) (fun c r=>by rw [aC (nown c b r)];exact r) fun c xs r=>by rw [aC (ntup c xs r)];exact r
   rcases hc with rfl | hc
   ·exact hbe
   ·rintro rfl;rcases he with z | z
    ·exact nown c b hc z
    ·rw [hc] at z;cases z;exact hb rfl
end
structure Un(fs ex:List Addr)(H H':Hp)(h h':Heap):Prop where
 keep:∀b o,h.get? b=some o->H b=none->b∉fs->b∉ex->h'.get? b=some o
 slot:∀b o,h.get? b=some o->H b=none->b∈fs->b∉ex->∃sl,h'.get? b=some {o with slots:=sl}
 free:∀b o,h.get? b=some o->H b=none->b∉ex->H' b=none
 there:∀b o,h.get? b=some o->b∉ex->∃o',h'.get? b=some o'
 tups:∀b xs,H b=some (.tup xs)->H' b=some (.tup xs)
 frzs:∀b o u,H b=some (.frz o u)->H' b=some (.frz o u)
 tbls:∀b ps,H b=some (.tbl ps)->∃more,H' b=some (.tbl (ps++more))
section
variable {fs fs' ex ex':List Addr} {H H1 H2:Hp} {h h1 h2 h':Heap} {a x e:Addr} {o:HO}
theorem Un.any(u:Un fs ex H H1 h h1){ob:Obj}(q:h.get? b=some ob)(n:H b=none)(hx:b∉ex):∃sl,h1.get? b=some {ob with slots:=sl}:=by
 by_cases hb:b∈fs
 ·exact u.slot b ob q n hb hx
 ·exact ⟨ob.slots,u.keep b ob q n hb hx⟩
theorem Un.kept(k:∀b u,h.get? b=some u->h'.get? b=some u):Un fs ex H H h h':=
 ⟨fun b ob q _ _ _=>k b ob q,fun b ob q _ _ _=>⟨ob.slots,k b ob q⟩,fun _ _ _ n _=>n,fun b ob q _=>⟨ob,k b ob q⟩,fun _ _ q=>q,fun _ _ _ q=>q,fun _ ps q=>⟨#[],by rw [q];simp⟩⟩
theorem Un.refl:Un fs ex H H h h:=Un.kept fun _ _ q=>q
theorem Un.laid(k:∀b u,h.get? b=some u->h'.get? b=some u)(hp:h.objs.size<=a)(hn:H a=none):Un fs ex H (upd H a o) h h' where
 keep:=fun b u q _ _ _=>k b u q
 slot:=fun b u q _ _ _=>⟨u.slots,k b u q⟩
 free:=fun b u q n _=>by rw [aC (cA (dJ (zq7 q) hp))];exact n
 there:=fun b u q _=>⟨u,k b u q⟩
 tups:=fun b xs q=>by rw [aC (aw q hn)];exact q
 frzs:=fun b u xs q=>by rw [aC (aw q hn)];exact q
 tbls:=fun b ps q=>⟨#[],by rw [aC (aw q hn),q];simp⟩
theorem Un.write(mu:Mut (H x))(he:e=x\/H e=some (.own x))(k:∀b u,b≠e->h.get? b=some u->h'.get? b=some u)(heo:∃u,h'.get? e=some u):Un fs ex H (upd H x o) h h':=by
 have hx:∀b,H b=none->b≠x:=fun b n z=>by subst z;rw [n] at mu;exact mu
 have hb:∀b,H b=none->b≠e:=fun b n z=>by
  subst z;rcases he with r | r
  ·exact hx b n r
  ·rw [n] at r;cases r
 have hm:∀b u,H b=some u->¬Mut (some u)->b≠x:=fun b u q nm z=>by subst z;rw [q] at mu;exact nm mu
 refine ⟨fun b u q n _ _=>k b u (hb b n) q,fun b u q n _ _=>⟨u.slots,k b u (hb b n) q⟩,fun b u q n _=>by rw [aC (hx b n)];exact n,fun b u q _=>?_,
  fun b xs q=>by rw [aC (hm b _ q fun z=>z)];exact q,fun b u xs q=>by rw [aC (hm b _ q fun z=>z)];exact q,fun b ps q=>⟨#[],by rw [aC (hm b _ q fun z=>z),q];simp⟩⟩
 by_cases hbe:b=e
 ·subst hbe;exact heo
 ·exact ⟨u,k b u hbe q⟩
end
def trk(h:Heap)(H:Hp):List Addr:=(List.range h.objs.size).filter fun a=>(H a).isSome
def gP(h:Heap)(H:Hp):Heap:=W.hideAll h (trk h H)
theorem lX(h:Heap)(H:Hp):(gP h H).objs.size=h.objs.size:=W.hideAll_size _ _
theorem nv{h:Heap}{H:Hp}{o:Obj}(e:h.get? b=some o)(n:H b=none):(gP h H).get? b=some o:=
 W.hideAll_get _ e fun hm=>by have q:(H b).isSome=true:=(List.mem_filter.mp hm).2;rw [n] at q;simp at q
theorem qt{h:Heap}{H:Hp}{o:Obj}(e:(gP h H).get? b=some o):h.get? b=some o/\H b=none:=by
 have e':h.get? b=some o:=W.of_hideAll (trk h H) e;refine ⟨e',?_⟩
 cases q:H b with
 |none=>rfl
 |some x=>have hm:b∈trk h H:=List.mem_filter.mpr ⟨zq49.mpr (zq7 e'),by simp [q]⟩;have z:(gP h H).get? b=none:=W.hideAll_none (trk h H) hm;rw [z] at e;cases e
def qa(g h:Heap)(L:Addr):List (Addr×Obj):=(List.range h.objs.size).filterMap fun a=>if a=L\/(g.get? a).isSome=true then none else (h.get? a).map fun o=>(a,o)
def rest(g h:Heap)(L d:Addr):List (Addr×Obj):=(qa g h L).filter fun p=>decide (p.1≠d)
end L2
namespace L2
structure Mod(K:W.Frag)(mg:Str->Option Value)(base:Heap):Prop where
 kin:K.In base
 glob:base.Ns mainGlobals mg
 blt:∃mb,base.Ns builtinsNs mb/\∀x:Str,x≠"__name__"->mb x=bootBuiltins x
 nolimit:base.NoLimit
structure Cx where
 prog:Program
 w:World
 K:W.Frag
 mg:Str->Option Value
 base:Heap
 A:Around
 N:List Str
 s₀:Shared
 H₀:Hp
 env:Env
 outer:List Env
 stack:List Env
 ex:List Addr
 fn:Str->Bool
 calm:Bool
 pn:List (Addr×Obj)
 xe:Value->Shared->Prop
def frs(l:List Env):List Addr:=l.filterMap (·.frame)
abbrev Cx.fs (X:Cx):List Addr:=frs X.outer
def Vis(sc:Scope)(x:Str):Prop:=sc.names.lookup x=some .local\/sc.names.lookup x=some .cell\/sc.names.lookup x=some .free
def Loc(sc:Scope)(x:Str):Prop:=sc.names.lookup x=some .local\/sc.names.lookup x=some .cell
def xQ(env:Env)(h:Heap)(m:Str->Option Value)(x:Str)(u:Value):Prop:=
 (env.kindOf x=some .local/\m x=some u)\/((env.kindOf x=some .cell\/env.kindOf x=some .free)/\∃c,env.cells.lookup x=some c/\h.IsCell c (some u))
structure Cx.Ok(X:Cx):Prop where
 mod:Mod X.K X.mg X.base
 kind:X.env.scope.kind=.function
 glob:X.env.globals=mainGlobals
 blt:X.env.builtins=builtinsNs
 above:X.s₀.heap.objs.size<=X.env.locals
 inj:∀x y c,X.env.cells.lookup x=some c->X.env.cells.lookup y=some c->x=y
 has:∀x,(X.env.kindOf x=some .cell\/X.env.kindOf x=some .free)->∃c,X.env.cells.lookup x=some c
 cab:∀x c,X.fn x=true->X.env.cells.lookup x=some c->X.s₀.heap.objs.size<=c
 hd:X.calm=true->X.A.handled=none
 frames:X.A.frames=some X.stack
 stk:X.stack=X.outer\/(X.stack=X.env::X.outer/\X.env.frame=some X.env.locals)
 exf:∀b∈X.ex,b≠X.env.locals/\∀x c,X.env.cells.lookup x=some c->c≠b
 bs:∀b o,X.base.get? b=some o->X.s₀.heap.get? b=some o/\X.H₀ b=none
 bsz:X.base.objs.size<=X.s₀.heap.objs.size
 noex:∀b o,X.base.get? b=some o->b∉X.ex
 exfs:∀b∈X.ex,b∉X.fs
 funs:X.s₀.heap.FunFrames X.base X.outer
 frf:∀b∈X.fs,X.H₀ b=none
structure Inv(X:Cx)(pins:List (Addr×Obj))(σ:List (Option V))(H:Hp)(s:Shared):Prop where
 ok:X.Ok
 os:s.os=X.s₀.os
 bare:AllBare s.gens
 base:Un X.fs X.ex X.H₀ H X.s₀.heap s.heap
 loc:∃m,s.heap.Ns X.env.locals m/\∀(i:Nat)(x:Str)(v:V),X.N[i]?=some x->σ[i]?=some (some v)->Vis X.env.scope x->∃u,RelV v u/\xQ X.env s.heap m x u
 cell:∀x c,X.env.cells.lookup x=some c->∃v,s.heap.IsCell c v
 free:H X.env.locals=none
 freeC:∀x c,X.env.cells.lookup x=some c->H c=none
 pin:∀p∈X.pn++pins,s.heap.get? p.1=some p.2/\H p.1=none/\p.1≠X.env.locals/\p.1∉X.fs/\∀v,p.2.data≠.cell v
 hok:HOk X.prog X.w H s.heap
 len:σ.length=X.N.length
section
variable {X:Cx} {pins:List (Addr×Obj)} {σ:List (Option V)} {H H':Hp} {s:Shared} {h':Heap}
theorem Cx.Ok.nofr(ok:X.Ok){b:Addr}{o:Obj}(e:X.base.get? b=some o):b∉X.fs:=fun hb=>by have:=(ok.funs.mem hb).1;rw [e] at this;cases this
theorem Inv.bs(I:Inv X pins σ H s):∀b o,X.base.get? b=some o->s.heap.get? b=some o/\H b=none:=fun b o e=>⟨I.base.keep b o (I.ok.bs b o e).1 (I.ok.bs b o e).2 (I.ok.nofr e) (I.ok.noex b o e),I.base.free b o (I.ok.bs b o e).1 (I.ok.bs b o e).2 (I.ok.noex b o e)⟩
theorem Inv.bk(I:Inv X pins σ H s):∀b o,X.base.get? b=some o->s.heap.get? b=some o:=fun b o e=>(I.bs b o e).1
theorem Inv.mod(I:Inv X pins σ H s):Mod X.K X.mg X.base:=I.ok.mod
theorem Inv.kIn(I:Inv X pins σ H s):X.K.In s.heap:=I.ok.mod.kin.keeps I.bk
theorem Inv.lt(I:Inv X pins σ H s):X.env.locals<s.heap.objs.size:=let ⟨_,hn,_⟩:=I.loc;hn.lt
theorem Inv.sz(I:Inv X pins σ H s):X.s₀.heap.objs.size<=s.heap.objs.size:=eO I.ok.above (vH I.lt)
theorem Inv.nofs(I:Inv X pins σ H s){a:Addr}(h:s.heap.objs.size<=a):a∉X.fs:=fun hb=>by obtain ⟨_,o,ho,_⟩:=I.ok.funs.mem hb;exact absurd (dJ (zq7 ho) (eO I.sz h)) (jZ _)
theorem Inv.cne(I:Inv X pins σ H s):∀x c,X.env.cells.lookup x=some c->c≠X.env.locals:=fun x c e z=>by obtain ⟨v,o,ho,hd⟩:=I.cell x c e;obtain ⟨m,⟨o',es,ep,ho',hd',_⟩,_⟩:=I.loc;rw [z,ho'] at ho;cases ho;rw [hd'] at hd;cases hd
theorem Inv.funs(I:Inv X pins σ H s):s.heap.FunFrames X.base X.outer:=by
 have all:∀(l:List Env),(∀b∈frs l,b∈X.fs)->X.s₀.heap.FunFrames X.base l->s.heap.FunFrames X.base l:=by
  intro l
  induction l with
  |nil=>intro _ _;trivial
  |cons env r ih=>intro hs hl;obtain ⟨hk,⟨L,o,hf,hn,ho,hd⟩,hr⟩:=hl;have hL:L∈X.fs:=hs L (by unfold frs;rw [vI,hf];exact zq4);obtain ⟨sl,e⟩:=I.base.slot L o ho (I.ok.frf L hL) hL fun z=>I.ok.exfs L z hL;exact zC hk (zD L _ hf hn e hd) (ih (fun b hb=>hs b (by unfold frs;rw [vI,hf];exact zq2 _ hb)) hr)
 exact all X.outer (fun _ hb=>hb) I.ok.funs
theorem Inv.stack(I:Inv X pins σ H s):s.heap.FunFrames X.base X.stack:=by
 rcases I.ok.stk with e | ⟨e,hf⟩
 ·rw [e];exact I.funs
 ·rw [e];obtain ⟨m,hn,_⟩:=I.loc;refine .cons (by rw [I.ok.kind];decide) hf hn ?_ I.funs;exact Heap.get?_none_of_le (eO I.ok.bsz I.ok.above)
theorem Inv.stkSub(I:Inv X pins σ H s):∀b∈frs X.stack,b∈X.env.locals::X.fs:=fun b hb=>by
 rcases I.ok.stk with e | ⟨e,hf⟩
 ·rw [e] at hb;exact zq2 _ hb
 ·rw [e] at hb;unfold frs at hb;rw [vI,hf] at hb;exact hb
theorem Inv.stkFree(I:Inv X pins σ H s):∀b∈frs X.stack,H b=none:=fun b hb=>by
 rcases zq1.mp (I.stkSub b hb) with e | hb
 ·rw [e];exact I.free
 ·obtain ⟨_,o,ho,_⟩:=I.ok.funs.mem hb;exact I.base.free b o ho (I.ok.frf b hb) fun z=>I.ok.exfs b z hb
theorem Inv.step{g':Array GenState}{t':Nat}{d':Drawn}{ch:List Addr}(I:Inv X pins σ H s)
  (hch:∀b∈ch,(b∈X.ex\/X.s₀.heap.objs.size<=b)/\b≠X.env.locals/\(∀x c,X.env.cells.lookup x=some c->c≠b)/\∀p∈X.pn++pins,p.1≠b)
  (keep:∀b o,b≠X.env.locals->b∉X.fs->b∉ch->s.heap.get? b=some o->H b=none->h'.get? b=some o)
  (slot:∀b o,b≠X.env.locals->b∈X.fs->b∉ch->s.heap.get? b=some o->H b=none->∃sl,h'.get? b=some {o with slots:=sl}) (free:∀b o,b∉ch->s.heap.get? b=some o->H b=none->H' b=none)
  (there:∀b o,b∉ch->s.heap.get? b=some o->∃o',h'.get? b=some o')
  (tups:∀b xs,H b=some (.tup xs)->H' b=some (.tup xs)) (frzs:∀b o u,H b=some (.frz o u)->H' b=some (.frz o u)) (tbls:∀b ps,H b=some (.tbl ps)->∃more,H' b=some (.tbl (ps++more)))
  (ns:∀m,s.heap.Ns X.env.locals m->h'.Ns X.env.locals m) (hok:HOk X.prog X.w H' h') (hg:AllBare g') :
  Inv X pins σ H' {s with heap:=h',gens:=g',drawn:=d',toks:=t'}:=by
 have neL:∀b o,X.s₀.heap.get? b=some o->b≠X.env.locals:=fun b o e=>cA (dJ (zq7 e) I.ok.above);have neC:∀b o,X.s₀.heap.get? b=some o->b∉X.ex->b∉ch:=fun b o e hx hb=>by
  rcases (hch b hb).1 with z | z
  ·exact hx z
  ·exact absurd (dJ (zq7 e) z) (jZ _)
 have cellK:∀x c,X.env.cells.lookup x=some c->∀v,s.heap.IsCell c v->h'.IsCell c v:=fun x c e v ⟨o,ho,hd⟩=>by
  have nch:c∉ch:=fun z=>(hch c z).2.2.1 x c e rfl
  by_cases hc:c∈X.fs
  ·obtain ⟨sl,q⟩:=slot c o (I.cne x c e) hc nch ho (I.freeC x c e);exact zA _ q hd
  ·exact zA o (keep c o (I.cne x c e) hc nch ho (I.freeC x c e)) hd
 refine ⟨I.ok,I.os,hg,⟨fun b o e n hb hx=>?_,fun b o e n hb hx=>?_,fun b o e n hx=>?_,fun b o e hx=>?_,fun b xs e=>tups b xs (I.base.tups b xs e),fun b o xs e=>frzs b o xs (I.base.frzs b o xs e),fun b ps e=>?_⟩,?_,fun x c e=>?_,?_,fun x c e=>?_,fun p hp=>?_,hok,I.len⟩
 ·exact keep b o (neL b o e) hb (neC b o e hx) (I.base.keep b o e n hb hx) (I.base.free b o e n hx)
 ·obtain ⟨sl,e1⟩:=I.base.slot b o e n hb hx;obtain ⟨sl',e2⟩:=slot b _ (neL b o e) hb (neC b o e hx) e1 (I.base.free b o e n hx);exact ⟨sl',e2⟩
 ·obtain ⟨o',e1⟩:=I.base.there b o e hx;exact free b o' (neC b o e hx) e1 (I.base.free b o e n hx)
 ·obtain ⟨o',e1⟩:=I.base.there b o e hx;exact there b o' (neC b o e hx) e1
 ·obtain ⟨m1,e1⟩:=I.base.tbls b ps e;obtain ⟨m2,e2⟩:=tbls b _ e1;exact ⟨m1++m2,by rw [e2,Array.append_assoc]⟩
 ·obtain ⟨m,hn,hl⟩:=I.loc;refine zA m (ns m hn) fun i x v e1 e2 e3=>?_;obtain ⟨u,r,l⟩:=hl i x v e1 e2 e3;refine zA u r ?_;rcases l with l | ⟨k,c,e,z⟩
  ·exact .inl l
  ·exact .inr ⟨k,zA c e (cellK x c e _ z)⟩
 ·obtain ⟨v,z⟩:=I.cell x c e;exact ⟨v,cellK x c e v z⟩
 ·obtain ⟨m,⟨o,_,_,ho,_⟩,_⟩:=I.loc;exact free _ o (fun z=>(hch _ z).2.1 rfl) ho I.free
 ·obtain ⟨v,o,ho,hd⟩:=I.cell x c e;exact free c o (fun z=>(hch c z).2.2.1 x c e rfl) ho (I.freeC x c e)
 ·obtain ⟨e,n,ne,nf,d⟩:=I.pin p hp;have nch:p.1∉ch:=fun z=>(hch p.1 z).2.2.2 p hp rfl;exact zJ (keep p.1 p.2 ne nf nch e n) (free p.1 p.2 nch e n) ne nf d
theorem Inv.un{t':Nat}(I:Inv X pins σ H s)(u:Un X.fs [] H H' s.heap h')(hok:HOk X.prog X.w H' h'):Inv X pins σ H' {s with heap:=h',toks:=t'}:=by obtain ⟨m,⟨o,es,ep,ho,r⟩,_⟩:=id I.loc;obtain ⟨sl,hL⟩:=u.any ho I.free Jo;exact I.step (g':=s.gens) (d':=s.drawn) (ch:=[]) (fun _ z=>nomatch z) (fun b o _ hb _ e n=>u.keep b o e n hb Jo) (fun b o _ hb _ e n=>u.slot b o e n hb Jo) (fun b o _ e n=>u.free b o e n Jo) (fun b o _ e=>u.there b o e Jo) u.tups u.frzs u.tbls (fun m' hm=>by obtain ⟨o',es',ep',ho',r'⟩:=hm;rw [ho] at ho';cases ho';exact zI _ es' ep' hL r') hok I.bare
theorem Inv.call{g':Array GenState}{t':Nat}{d':Drawn}{ch:List Addr}(I:Inv X pins σ H s)(u:Un (frs X.stack) ch H H' s.heap h')(hok:HOk X.prog X.w H' h')(hg:AllBare g')
  (hch:∀b∈ch,(b∈X.ex\/X.s₀.heap.objs.size<=b)/\b≠X.env.locals/\(∀x c,X.env.cells.lookup x=some c->c≠b)/\∀p∈X.pn++pins,p.1≠b) :
  Inv X pins σ H' {s with heap:=h',gens:=g',drawn:=d',toks:=t'}:=by
 obtain ⟨m,⟨o,es,ep,ho,r⟩,_⟩:=id I.loc;obtain ⟨sl,hL⟩:=u.any ho I.free fun z=>(hch _ z).2.1 rfl;exact I.step (ch:=ch) hch (fun b o hL hb hc e n=>u.keep b o e n (fun z=>(zq1.mp (I.stkSub b z)).elim hL hb) hc) (fun b o _ _ hc e n=>u.any e n hc) (fun b o hc e n=>u.free b o e n hc) (fun b o hc e=>u.there b o e hc) u.tups u.frzs u.tbls (fun m' hm=>by obtain ⟨o',es',ep',ho',r'⟩:=hm;rw [ho] at ho';cases ho';exact zI _ es' ep' hL r') hok hg
theorem Inv.turned{t':Nat}{it:Addr}(I:Inv X pins σ H s)(k:∀b o,b≠it->s.heap.get? b=some o->h'.get? b=some o)(hn:H it=none)(hL:it≠X.env.locals)
  (h1:it∈X.ex\/X.s₀.heap.objs.size<=it) (h2:∀x c,X.env.cells.lookup x=some c->c≠it) (h3:∀p∈X.pn++pins,p.1≠it):Inv X pins σ H {s with heap:=h',toks:=t'}:=by
 have nit:∀b u,H b=some u->b≠it:=fun b u e z=>by rw [z,hn] at e;cases e
 refine I.step (g':=s.gens) (d':=s.drawn) (ch:=[it]) (fun b hb=>?_) (fun b o _ _ hc e _=>k b o (fun z=>hc (by simp [z])) e) (fun b o _ _ hc e _=>⟨o.slots,k b o (fun z=>hc (by simp [z])) e⟩) (fun _ _ _ _ n=>n)
  (fun b o hc e=>⟨o,k b o (fun z=>hc (by simp [z])) e⟩) (fun _ _ e=>e) (fun _ _ _ e=>e) (fun b ps e=>⟨#[],by rw [e];simp⟩) (fun m hm=>?_) (fun b u e=>?_) I.bare
 ·have e:b=it:=by simpa using hb
  subst e;exact zH h1 hL h2 h3
 ·obtain ⟨o,es,ep,ho,r⟩:=hm;exact zI o es ep (k _ o (Ne.symm hL) ho) r
 ·refine (I.hok b u e).stay (fun c v hc q=>k c v ?_ q) (fun _ q=>q) fun _ _ q=>q;rcases hc with z | z
  ·rw [z];exact nit b u e
  ·exact nit c _ z
theorem Inv.tok(I:Inv X pins σ H s)(t:Nat):Inv X pins σ H {s with toks:=t}:=I.un (h':=s.heap) (t':=t) Un.refl I.hok
theorem Inv.kept{t':Nat}(I:Inv X pins σ H s)(k:∀b u,s.heap.get? b=some u->h'.get? b=some u):Inv X pins σ H {s with heap:=h',toks:=t'}:=I.un (Un.kept k) (I.hok.kept k)
theorem Inv.laid{a:Addr}{o:HO}{t':Nat}(I:Inv X pins σ H s)(k:∀b u,s.heap.get? b=some u->h'.get? b=some u)(hp:s.heap.objs.size<=a)(new:ObjOk X.prog X.w (upd H a o) h' a o):
  Inv X pins σ (upd H a o) {s with heap:=h',toks:=t'}:=I.un (Un.laid k hp (I.hok.fresh hp)) (I.hok.laid k hp new)
theorem Inv.write{x e:Addr}{o:HO}{t':Nat}(I:Inv X pins σ H s)(mu:Mut (H x))(he:e=x\/H e=some (.own x))(k:∀b u,b≠e->s.heap.get? b=some u->h'.get? b=some u)(heo:∃u,h'.get? e=some u)
  (new:ObjOk X.prog X.w (upd H x o) h' x o):Inv X pins σ (upd H x o) {s with heap:=h',toks:=t'}:=I.un (Un.write mu he k heo) (I.hok.write mu he k heo new)
theorem Inv.pins_of{pins':List (Addr×Obj)}(I:Inv X pins σ H s)(h:∀p∈pins',s.heap.get? p.1=some p.2/\H p.1=none/\p.1≠X.env.locals/\p.1∉X.fs/\∀v,p.2.data≠.cell v):Inv X pins' σ H s:=
 ⟨I.ok,I.os,I.bare,I.base,I.loc,I.cell,I.free,I.freeC,fun p hp=>(zq10.mp hp).elim (fun z=>I.pin p (d9 _ z)) (h p),I.hok,I.len⟩
theorem iM{N:List Str}(hN:N.Nodup){i j:Nat}{x:Str}(a:N[i]?=some x)(b:N[j]?=some x):i=j:=by obtain ⟨h1,e1⟩:=zq19.mp a;obtain ⟨h2,e2⟩:=zq19.mp b;exact (List.getElem_inj hN).mp (e1.trans e2.symm)
theorem mx{M:Model}{A:Around}{E:Value->Shared->Prop}{i:Nat}{x:Str}{v:V}{u:Value}{Q:Unit->Shared->Prop}(I:Inv X pins σ H s)(hN:X.N.Nodup)(hi:X.N[i]?=some x)(hx:Loc X.env.scope x)(r:RelV v u)
  (h:∀s',Inv X pins (σ.set i (some v)) H s'->(∃a,Heap.SameBut a s.heap s'.heap/\(a=X.env.locals\/X.env.cells.lookup x=some a))->Q () s') (hf:X.fn x=true\/X.env.scope.names.lookup x=some .local:=by first | exact .inl rfl | exact .inr rfl | assumption):wpAny M A (storeName X.env x u) Q E s:=by
 obtain ⟨m,hn,hl⟩:=id I.loc;have hcls:(X.env.scope.kind==.class || (X.env.scope.kind==.module&&X.env.locals != X.env.globals))=false:=by rw [I.ok.kind];rfl
 have hiσ:i<σ.length:=by rw [I.len];exact (zq19.mp hi).1
 have cne:=I.cne;have tracked:∀{a:Addr} {h':Heap},(∃o,s.heap.get? a=some o/\H a=none)->Heap.SameBut a s.heap h'->HOk X.prog X.w H h':=fun {a h'} ha hs b ob e=>by
  obtain ⟨_,_,hfree⟩:=ha;refine (I.hok b ob e).stay (fun c w' hc q=>(hs.2 c ?_).trans q) (fun _ q=>q) fun _ _ q=>q;rintro rfl;rcases hc with rfl | hc
  ·rw [hfree] at e;cases e
  ·rw [hfree] at hc;cases hc
 rcases hx with hk | hk
 ·refine wpAny_storeName_local hk hn (fun h' hn' hs=>?_) hcls;obtain ⟨oL,_,_,hoL,_⟩:=id hn;refine h _ ⟨I.ok,I.os,I.bare,⟨fun b o e n hb hx=>?_,fun b o e n hb hx=>?_,I.base.free,fun b o e hx=>?_,I.base.tups,I.base.frzs,I.base.tbls⟩,zA _ hn' fun j y v' e1 e2 e3=>?_,fun y c e=>?_,I.free,I.freeC,fun p hp=>?_,tracked (zA oL hoL I.free) hs,by simpa using I.len⟩ (zA _ hs (.inl rfl))
  ·exact (hs.2 b (cA (dJ (zq7 e) I.ok.above))).trans (I.base.keep b o e n hb hx)
  ·obtain ⟨sl,e1⟩:=I.base.slot b o e n hb hx;exact ⟨sl,(hs.2 b (cA (dJ (zq7 e) I.ok.above))).trans e1⟩
  ·obtain ⟨o',e1⟩:=I.base.there b o e hx;exact ⟨o',(hs.2 b (cA (dJ (zq7 e) I.ok.above))).trans e1⟩
  ·by_cases hj:j=i
   ·subst hj;rw [hi] at e1;cases e1;rw [xJ hiσ] at e2
    cases e2
    exact zA u r (.inl ⟨hk,Jo⟩)
   ·rw [List.getElem?_set_ne (Ne.symm hj)] at e2;obtain ⟨u',r',q⟩:=hl j y v' e1 e2 e3;refine zA u' r' ?_;rcases q with ⟨k,e⟩ | ⟨k,c,e,z⟩
    ·refine .inl ⟨k,?_⟩;have:y≠x:=fun e=>hj (iM hN e1 (e ▸ hi));simp [this,e]
    ·exact .inr ⟨k,zA c e (z.sameBut hs (cne y c e))⟩
  ·obtain ⟨w',z⟩:=I.cell y c e;exact ⟨w',z.sameBut hs (cne y c e)⟩
  ·obtain ⟨e,n,ne,nf,d⟩:=I.pin p hp;exact zJ ((hs.2 p.1 ne).trans e) n ne nf d
 ·have hfn:X.fn x=true:=by
   rcases hf with z | z
   ·exact z
   ·rw [z] at hk;cases hk
  obtain ⟨c,hc⟩:=I.ok.has x (.inl hk);obtain ⟨w',z⟩:=I.cell x c hc;refine wpAny_storeName_cell I.ok.kind hk hc z (fun h' hc' hs=>?_);obtain ⟨oc,hoc,hocd⟩:=id z;refine h {s with heap:=h'} ⟨I.ok,I.os,I.bare,⟨fun b o e n hb hx=>?_,fun b o e n hb hx=>?_,I.base.free,fun b o e hx=>?_,I.base.tups,I.base.frzs,I.base.tbls⟩,zA m (hn.sameBut hs (Ne.symm (cne x c hc))) fun j y v' e1 e2 e3=>?_,fun y c' e=>?_,I.free,I.freeC,fun p hp=>?_,tracked (zA oc hoc (I.freeC x c hc)) hs,by simpa using I.len⟩ (zA c hs (.inr hc))
  ·exact (hs.2 b (cA (dJ (zq7 e) (I.ok.cab x c hfn hc)))).trans (I.base.keep b o e n hb hx)
  ·obtain ⟨sl,e1⟩:=I.base.slot b o e n hb hx;exact ⟨sl,(hs.2 b (cA (dJ (zq7 e) (I.ok.cab x c hfn hc)))).trans e1⟩
  ·obtain ⟨o',e1⟩:=I.base.there b o e hx;exact ⟨o',(hs.2 b (cA (dJ (zq7 e) (I.ok.cab x c hfn hc)))).trans e1⟩
  ·by_cases hj:j=i
   ·subst hj;rw [hi] at e1;cases e1;rw [xJ hiσ] at e2
    cases e2
    exact zA u r (.inr ⟨.inl hk,zA c hc hc'⟩)
   ·rw [List.getElem?_set_ne (Ne.symm hj)] at e2;obtain ⟨u',r',q⟩:=hl j y v' e1 e2 e3;refine zA u' r' ?_;rcases q with q | ⟨k,c',e,z'⟩
    ·exact .inl q
    ·refine .inr ⟨k,zA c' e (z'.sameBut hs ?_)⟩;rintro rfl;exact hj (iM hN e1 (I.ok.inj _ _ _ e hc ▸ hi))
  ·by_cases hcc:c'=c
   ·subst hcc;exact ⟨_,hc'⟩
   ·obtain ⟨w2,z2⟩:=I.cell y c' e;exact ⟨w2,z2.sameBut hs hcc⟩
  ·obtain ⟨e,n,ne,nf,d⟩:=I.pin p hp;refine zJ ((hs.2 p.1 ?_).trans e) n ne nf d;intro q;rw [q,hoc] at e;have q':oc=p.2:=Option.some.inj e;exact d w' (by rw [<- q'];exact hocd)
theorem jc{M:Model}{A:Around}{E:Value->Shared->Prop}{i:Nat}{x:Str}{v:V}{u:Value}{Q:Unit->Shared->Prop}(I:Inv X pins σ H s)(hN:X.N.Nodup)(hi:X.N[i]?=some x)(hx:Loc X.env.scope x)(r:RelV v u)
  (h:∀s',Inv X pins (σ.set i (some v)) H s'->Q () s') (hf:X.fn x=true\/X.env.scope.names.lookup x=some .local:=by first | exact .inl rfl | exact .inr rfl | assumption):wpAny M A (storeName X.env x u) Q E s:=
 mx I hN hi hx r (fun s' I' _=>h s' I') hf
theorem Inv.call'{s':Shared}{ch:List Addr}(I:Inv X pins σ H s)(ho:s'.os=s.os)(u:Un (frs X.stack) ch H H' s.heap s'.heap)(hok:HOk X.prog X.w H' s'.heap)(hg:AllBare s'.gens)
  (hch:∀b∈ch,(b∈X.ex\/X.s₀.heap.objs.size<=b)/\b≠X.env.locals/\(∀x c,X.env.cells.lookup x=some c->c≠b)/\∀p∈X.pn++pins,p.1≠b):Inv X pins σ H' s':=by
 obtain ⟨h',g',d',t',o'⟩:=s';have e:o'=s.os:=ho;subst e;exact I.call (g':=g') (t':=t') (d':=d') u hok hg hch
end
abbrev XK:=Value->Option Addr->Hp->Prop
abbrev St:=List (Option V)
abbrev VK:=V->Hp->Prop
abbrev TE:=St->Hp->VK->Prop
abbrev TT:=St->Hp->(Bool->Hp->Prop)->Prop
abbrev TA:=St->Hp->(List V->Hp->Prop)->Prop
structure cy where
 nx:St->Hp->Prop
 rt:VK
 bk:St->Hp->Prop:=fun _ _=>False
 ct:St->Hp->Prop:=fun _ _=>False
abbrev TS:=cy->St->Hp->Prop
def EP(X:Cx)(pins:List (Addr×Obj))(σ:St)(Q:VK)(u:Value)(s':Shared):Prop:=∃v H',Inv X pins σ H' s'/\RelV v u/\Q v H'
def TP(X:Cx)(pins:List (Addr×Obj))(σ:St)(Q:Bool->Hp->Prop)(b:Bool)(s':Shared):Prop:=∃H',Inv X pins σ H' s'/\Q b H'
def AP(X:Cx)(pins:List (Addr×Obj))(σ:St)(Q:List V->Hp->Prop)(us:List Value)(s':Shared):Prop:=∃vs H',Inv X pins σ H' s'/\Vals vs us/\Q vs H'
def SP(X:Cx)(pins:List (Addr×Obj))(D:cy)(f:Flow)(s':Shared):Prop:=
 match f with
 | .next=>∃σ' H',Inv X pins σ' H' s'/\D.nx σ' H'
 | .brk=>∃σ' H',Inv X pins σ' H' s'/\D.bk σ' H'
 | .cont=>∃σ' H',Inv X pins σ' H' s'/\D.ct σ' H'
 | .ret u=>∃v σ' H',Inv X pins σ' H' s'/\RelV v u/\D.rt v H'
def PE(X:Cx)(e:Expr)(t:TE):Prop:=
 ∀(pins:List (Addr×Obj)) (s:Shared) (σ:St) (H:Hp) (Q:VK),Inv X pins σ H s->t σ H Q->wpAny (model X.prog X.w) X.A (eval e X.env) (EP X pins σ Q) X.xe s
def PT(X:Cx)(e:Expr)(t:TT):Prop:=
 ∀(pins:List (Addr×Obj)) (s:Shared) (σ:St) (H:Hp) (Q:Bool->Hp->Prop),Inv X pins σ H s->t σ H Q->wpAny (model X.prog X.w) X.A (isTrue e X.env (eval e X.env)) (TP X pins σ Q) X.xe s
def PW(X:Cx)(e:Expr)(t:TT):Prop:=
 ∀(whole:Sem Value)(pins:List (Addr×Obj)) (s:Shared) (σ:St) (H:Hp) (Q:Bool->Hp->Prop),Inv X pins σ H s->t σ H Q->wpAny (model X.prog X.w) X.A (isTrue e X.env whole) (TP X pins σ Q) X.xe s
theorem PW.pt{X:Cx}{e:Expr}{t:TT}(h:PW X e t):PT X e t:=h _
def PA(X:Cx)(es:List Expr)(t:TA):Prop:=
 ∀(pos:Pos)(pins:List (Addr×Obj)) (s:Shared) (σ:St) (H:Hp) (Q:List V->Hp->Prop),Inv X pins σ H s->t σ H Q->wpAny (model X.prog X.w) X.A (spliced (backTo pos (starEach es X.env))) (AP X pins σ Q) X.xe s
def PS(X:Cx)(st:Stmt)(t:TS):Prop:=
 ∀(pins:List (Addr×Obj)) (s:Shared) (σ:St) (H:Hp) (D:cy),Inv X pins σ H s->t D σ H->wpAny (model X.prog X.w) X.A (exec st X.env) (SP X pins D) X.xe s
def PSs(X:Cx)(st:List Stmt)(t:TS):Prop:=
 ∀(pins:List (Addr×Obj)) (s:Shared) (σ:St) (H:Hp) (D:cy),Inv X pins σ H s->t D σ H->wpAny (model X.prog X.w) X.A (execs st X.env) (SP X pins D) X.xe s
theorem thn{α:Type}{t:Sem α}{Q Q':α->Shared->Prop}{M:Model}{A:Around}{E:Value->Shared->Prop}{s:Shared}(h:wpAny M A t Q E s)(hQ:∀a s,Q a s->Q' a s):wpAny M A t Q' E s:=wpAny_mono h hQ fun _ _ x=>x
end L2
namespace L2
variable {u:Value} {x:Str}
section
variable {X:Cx}
theorem bin{a b:Expr}{ta tb:TE}(ha:PE X a ta)(hb:PE X b tb){pins:List (Addr×Obj)}{s:Shared}{σ:St}{H:Hp}{R:V->V->Hp->Prop}(I:Inv X pins σ H s)(h:ta σ H fun x H1=>tb σ H1 fun y H2=>R x y H2)
  {α:Type} {Q:α->Shared->Prop} {f:Value->Value->Sem α}
  (hf:∀v u s2 x y H2,Inv X pins σ H2 s2->RelV x v->RelV y u->R x y H2->wpAny (model X.prog X.w) X.A (f v u) Q X.xe s2) :
  wpAny (model X.prog X.w) X.A (eval a X.env) (fun v s₁=>wpAny (model X.prog X.w) X.A (eval b X.env) (fun u s₂=>wpAny (model X.prog X.w) X.A (f v u) Q X.xe s₂) X.xe s₁) X.xe s:=by
 refine thn (ha pins s σ H _ I h) fun v s1 hhx=>?_;obtain ⟨x,H1,I1,r1,q1⟩:=hhx;refine thn (hb pins s1 σ H1 _ I1 q1) fun u s2 hhx=>?_;obtain ⟨y,H2,I2,r2,q2⟩:=hhx;exact hf v u s2 x y H2 I2 r1 r2 q2
def vB(i:Nat):TE:=fun σ H Q=>∃v,σ[i]?=some (some v)/\Q v H
def tC(v:V):TE:=fun _ H Q=>Q v H
theorem ul{i:Nat}{pos:Pos}(hN:X.N[i]?=some x)(hv:Vis X.env.scope x)(hd:(x==("__debug__":Str))=false:=by decide) (hcd:(x==("__classdict__":Str))=false:=by decide):PE X (.Name x pos) (vB i):=by
 intro pins s σ H Q I h;obtain ⟨v,e,h⟩:=h;obtain ⟨m,hn,hl⟩:=I.loc;obtain ⟨u,r,l⟩:=hl i x v hN e hv;have fin:EP X pins σ Q u s:=zB v H I r h
 rcases l with ⟨hk,hm⟩ | ⟨hk,c,hc,hcell⟩
 ·exact wpAny_Name (wpAny_loadName_local I.ok.kind hk hn hm fin) hd
 ·rcases hk with hk | hk
  ·exact wpAny_Name (wpAny_loadName_cell I.ok.kind hk hc hcell fin) hd
  ·exact wpAny_Name (wpAny_loadName_free I.ok.kind hk hc hcell fin hcd) hd
theorem oE{i j pos}:PE X (.Constant (.int i) j pos) (tC (.int i)):=fun _ _ _ H _ I h=>wpAny_Constant_int (zB (.int i) H (I.tok _) ⟨_,rfl⟩ h)
theorem rE{b j pos}:PE X (.Constant (.bool b) j pos) (tC (.bl b)):=fun _ _ _ H _ I h=>Constant_bool (zB (.bl b) H I rfl h)
theorem uk{j pos}:PE X (.Constant .none j pos) (tC .non):=fun _ _ _ H _ I h=>Constant_none (zB .non H I rfl h)
theorem oG{x j pos}:PE X (.Constant (.str x) j pos) (tC (.str x)):=fun _ _ _ H _ I h=>Calls.Constant_str (zB (.str x) H (I.tok _) ⟨_,rfl⟩ h)
def Gl(X:Cx)(x:Str):Prop:=X.env.kindOf x=some .globalImplicit
theorem gU{E:Value->Shared->Prop}{pins:List (Addr×Obj)}{s:Shared}{σ:St}{H:Hp}{pos:Pos}{Q:Value->Shared->Prop}(I:Inv X pins σ H s)(hg:Gl X x)(hm:X.mg x=some u)(h:Q u s)
 (hd:(x==("__debug__":Str))=false:=by decide):wpAny (model X.prog X.w) X.A (eval (.Name x pos) X.env) Q E s:=
 Calls.Name_function_global I.ok.kind hg (Calls.loadGlobal_global (by rw [I.ok.glob];exact I.mod.glob.keeps I.bk) hm h) hd
theorem eu{E:Value->Shared->Prop}{pins:List (Addr×Obj)}{s:Shared}{σ:St}{H:Hp}{pos:Pos}{Q:Value->Shared->Prop}(I:Inv X pins σ H s)(hg:Gl X x)(hm:X.mg x=none)(hv:bootBuiltins x=some u)(h:Q u s)
 (hn:x≠"__name__":=by decide) (hd:(x==("__debug__":Str))=false:=by decide):wpAny (model X.prog X.w) X.A (eval (.Name x pos) X.env) Q E s:=by
 obtain ⟨mb,h1,h2⟩:=I.mod.blt;exact Calls.Name_function_global I.ok.kind hg (Calls.loadGlobal_builtin (by rw [I.ok.glob];exact I.mod.glob.keeps I.bk) hm (by rw [I.ok.blt];exact h1.keeps I.bk) ((h2 x hn).trans hv) h) hd
theorem qD{v:V}{pos:Pos}(hg:Gl X x)(hm:X.mg x=some u)(r:RelV v u)(hd:(x==("__debug__":Str))=false:=by decide):PE X (.Name x pos) (tC v):=
 fun _ _ _ H _ I h=>gU I hg hm (zB v H I r h) hd
theorem qB{v:V}{pos:Pos}(hg:Gl X x)(hm:X.mg x=none)(hv:bootBuiltins x=some u)(r:RelV v u)(hn:x≠"__name__":=by decide) (hd:(x==("__debug__":Str))=false:=by decide):PE X (.Name x pos) (tC v):=
 fun _ _ _ H _ I h=>eu I hg hm hv (zB v H I r h) hn hd
variable {a b:Expr} {ta tb:TE} {pos:Pos}
def PC(X:Cx)(op:CmpOp)(a b:Expr)(t:TE):Prop:=
 ∀(pins:List (Addr×Obj)) (s:Shared) (σ:St) (H:Hp) (Q:VK),Inv X pins σ H s->t σ H Q->
  wpAny (model X.prog X.w) X.A (eval a X.env) (fun v s₁=>wpAny (model X.prog X.w) X.A (eval b X.env) (fun u s₂=>wpAny (model X.prog X.w) X.A (compareOp op v u) (EP X pins σ Q) X.xe s₂) X.xe s₁) X.xe s
theorem nW(b:Expr){op:CmpOp}(h:op≠.In)(h2:op≠.NotIn):behindInMarks op b=false:=by
 have e1:(op==CmpOp.In)=false:=by cases op<;>first | rfl | exact absurd rfl h
 have e2:(op==CmpOp.NotIn)=false:=by cases op<;>first | rfl | exact absurd rfl h2
 cases b<;>simp [behindInMarks,e1,e2]
def tB(t:TE):TT:=fun σ H Q=>t σ H fun x H1=>∃c,x=.bl c/\Q c H1
theorem xY{op:CmpOp}{t:TE}(h:PC X op a b t)(h1:behindInMarks op b=false:=by first | exact nW _ Jm Jm | rfl):PT X (.Compare a [op] [b] pos) (tB t):=by
 intro pins s σ H Q I hw;refine wpAny_isTrue_Compare1 (thn (h pins s σ H _ I hw) fun v s1 h1=>thn h1 fun u s2 h2=>thn h2 fun c s3 hhx=>?_) h1;obtain ⟨x,H1,I1,r1,q1⟩:=hhx;obtain ⟨d,rfl,q⟩:=q1
 cases r1
 exact wpAny_truthy_bool (zA H1 I1 q)
variable {tA tB':TT} {rest:List Expr}
def xt(t u:TT):TT:=fun σ H Q=>t σ H fun c H1=>if c=true then u σ H1 Q else Q false H1
def tOr(t u:TT):TT:=fun σ H Q=>t σ H fun c H1=>if c=true then Q true H1 else u σ H1 Q
def xy(t:TT):TT:=fun σ H Q=>t σ H fun c H1=>Q (!c) H1
def tw(ta tb:TE):TE:=fun σ H Q=>ta σ H fun x H1=>∃c,x=.bl c/\if c=true then tb σ H1 Q else Q (.bl false) H1
def xA(ta tb:TE):TE:=fun σ H Q=>ta σ H fun x H1=>∃c,x=.bl c/\if c=true then Q (.bl true) H1 else tb σ H1 Q
def tF(ta:TE):TE:=fun σ H Q=>ta σ H fun x H1=>∃c,x=.bl c/\Q (.bl (!c)) H1
def tIf(t:TT)(ta tb:TE):TE:=fun σ H Q=>t σ H fun c H1=>if c=true then ta σ H1 Q else tb σ H1 Q
end
end L2
namespace L2
def SqL(K:W.Frag)(H:Hp)(a:Addr)(xs:List V):Prop:=
 Rd H a (.lst xs)\/
  ∃(o:Obj)(its:Array Value)(n:Nat),K.lookup a=some o/\o.cls=.type "list"/\o.dict=none/\o.data=.seq its n/\its.size<=sizeLine/\Vals xs its.toList
def SqT(K:W.Frag)(H:Hp)(a:Addr)(xs:List V):Prop:=
 Rd H a (.tup xs)\/
  ∃(o:Obj)(its:Array Value)(n:Nat),K.lookup a=some o/\o.cls=.type "tuple"/\o.data=.seq its n/\its.size<=sizeLine/\Vals xs its.toList
def xT:Value->Option V
 | .none=>some .non
 | .bool b=>some (.bl b)
 | .int i _=>some (.int i)
 | .str x _=>some (.str x)
 | .bytes b _=>some (.byt b)
 | .float b _=>some (.flt b)
 | .ref a=>some (.ref a)
 | .type n=>some (.ty n)
 |_=>none
theorem RelV.abs{x:V}{u:Value}(r:RelV x u):xT u=some x:=by
 cases x with
 |non=>cases r;rfl
 |bl _=>cases r;rfl
 |int _=>obtain ⟨t,rfl⟩:=r;rfl
 |str _=>obtain ⟨t,rfl⟩:=r;rfl
 |byt _=>obtain ⟨t,rfl⟩:=r;rfl
 |flt _=>obtain ⟨t,rfl⟩:=r;rfl
 |ref _=>cases r;rfl
 |ty _=>cases r;rfl
theorem RelV.inj{x y:V}{u:Value}(r:RelV x u)(q:RelV y u):x=y:=Option.some.inj (r.abs.symm.trans q.abs)
theorem Vals.inj:∀{xs ys:List V} {us:List Value},Vals xs us->Vals ys us->xs=ys
 |_,_,_,.nil,.nil=>rfl
 |_,_,_,.cons r t,.cons r' t'=>by rw [r.inj r',Vals.inj t t']
section
variable {X:Cx} {pins:List (Addr×Obj)} {σ:St} {H:Hp} {s:Shared} {a:Addr} {xs ys:List V}
theorem SqL.of{K:W.Frag}(h:H a=some (.lst xs)):SqL K H a xs:=.inl (.inl h)
theorem SqT.of{K:W.Frag}(h:H a=some (.tup xs)):SqT K H a xs:=.inl (.inl h)
theorem Inv.list(I:Inv X pins σ H s)(h:SqL X.K H a xs):∃its:List Value,Vals xs its/\PlainL s.heap a its.toArray/\xs.length<=sizeLine:=by
 rcases h with h | ⟨o,its,n,hk,hc,hd,hs,hz,r⟩
 ·obtain ⟨z,its,n,r,e⟩:=h.ok I.hok;exact zF its r (zD _ n e rfl rfl rfl) z
 ·refine zF its.toList r (zD o n (I.kIn a o hk) hc hd (by simpa using hs)) ?_;have e:=r.length;simp only [Array.length_toList] at e;omega
theorem Inv.tuple(I:Inv X pins σ H s)(h:SqT X.K H a xs):∃its:List Value,Vals xs its/\IsTup s.heap a its.toArray/\xs.length<=sizeLine:=by
 rcases h with h | ⟨o,its,n,hk,hc,hs,hz,r⟩
 ·obtain ⟨z,its,r,p⟩:=h.ok I.hok;exact zF its r p z
 ·refine zF its.toList r (zF o (I.kIn a o hk) hc ⟨n,by simpa using hs⟩) ?_;have e:=r.length;simp only [Array.length_toList] at e;omega
theorem Inv.list_inj(I:Inv X pins σ H s)(h:SqL X.K H a xs)(h':SqL X.K H a ys):xs=ys:=by
 obtain ⟨its,r,⟨o,n,e,_,_,d⟩,_⟩:=I.list h;obtain ⟨its',r',⟨o',n',e',_,_,d'⟩,_⟩:=I.list h';rw [e] at e';cases e';rw [d] at d';injection d' with d1 _;have:its=its':=by simpa using congrArg Array.toList d1
 subst this;exact r.inj r'
theorem Inv.tuple_inj(I:Inv X pins σ H s)(h:SqT X.K H a xs)(h':SqT X.K H a ys):xs=ys:=by
 obtain ⟨its,r,⟨o,e,_,n,d⟩,_⟩:=I.tuple h;obtain ⟨its',r',⟨o',e',_,n',d'⟩,_⟩:=I.tuple h';rw [e] at e';cases e';rw [d] at d';injection d' with d1 _;have:its=its':=by simpa using congrArg Array.toList d1
 subst this;exact r.inj r'
end
abbrev Cx.wish (X:Cx) (E:Value->Shared->Prop):Cx:={X with xe:=E}
abbrev Cx.nox (X:Cx):Cx:=X.wish fun _ _=>False
theorem Cx.Ok.wish{X:Cx}(ok:X.Ok)(E:Value->Shared->Prop):(X.wish E).Ok:=
 ⟨ok.mod,ok.kind,ok.glob,ok.blt,ok.above,ok.inj,ok.has,ok.cab,ok.hd,ok.frames,ok.stk,ok.exf,ok.bs,ok.bsz,ok.noex,ok.exfs,ok.funs,ok.frf⟩
theorem Cx.Ok.unwish{X:Cx}{E:Value->Shared->Prop}(ok:(X.wish E).Ok):X.Ok:=
 ⟨ok.mod,ok.kind,ok.glob,ok.blt,ok.above,ok.inj,ok.has,ok.cab,ok.hd,ok.frames,ok.stk,ok.exf,ok.bs,ok.bsz,ok.noex,ok.exfs,ok.funs,ok.frf⟩
section
variable {X:Cx} {pins:List (Addr×Obj)} {σ:St} {H:Hp} {s:Shared} {E:Value->Shared->Prop}
theorem Inv.wish(I:Inv X pins σ H s)(E:Value->Shared->Prop):Inv (X.wish E) pins σ H s:=⟨I.ok.wish E,I.os,I.bare,I.base,I.loc,I.cell,I.free,I.freeC,I.pin,I.hok,I.len⟩
theorem Inv.unwish(I:Inv (X.wish E) pins σ H s):Inv X pins σ H s:=⟨I.ok.unwish,I.os,I.bare,I.base,I.loc,I.cell,I.free,I.freeC,I.pin,I.hok,I.len⟩
theorem SP.unwish{D:cy}{f:Flow}{s':Shared}(h:SP (X.wish E) pins D f s'):SP X pins D f s':=by
 cases f with
 |next=>obtain ⟨σ',H',I,q⟩:=h;exact zE σ' H' I.unwish q
 |brk=>obtain ⟨σ',H',I,q⟩:=h;exact zE σ' H' I.unwish q
 |cont=>obtain ⟨σ',H',I,q⟩:=h;exact zE σ' H' I.unwish q
 |ret u=>obtain ⟨v,σ',H',I,r,q⟩:=h;exact zU v σ' H' I.unwish r q
theorem PSs.nox{st:List Stmt}{t:TS}(h:PSs X.nox st t):PSs X st t:=fun pins s σ H D I hw=>wpAny_mono (h pins s σ H D (I.wish _) hw) (fun _ _ q=>q.unwish) fun _ _ z=>False.elim z
end
section
variable {X:Cx} {st:Stmt} {rest:List Stmt} {t u:TS} {e:Expr} {te:TE} {pos:Pos}
def tE:TS:=fun D σ H=>D.nx σ H
def vA(t u:TS):TS:=fun D σ H=>t {D with nx:=u D} σ H
def pF:TS:=fun D σ H=>D.bk σ H
theorem Inv.quiet{pins:List (Addr×Obj)}{σ:St}{H:Hp}{s:Shared}(I:Inv X pins σ H s):interactive X.env=false:=by simp [interactive,I.ok.kind]
def tD(te:TE):TS:=fun D σ H=>te σ H fun _ H1=>D.nx σ H1
def xB(te:TE):TS:=fun D σ H=>te σ H D.rt
def xw(c:TT)(t u:TS):TS:=fun D σ H=>c σ H fun b H1=>if b=true then t D σ H1 else u D σ H1
def vz:TS:=fun _ _ _=>False
end
abbrev TG:=V->St->Hp->(St->Hp->Prop)->Prop
abbrev TGs:=List V->St->Hp->(St->Hp->Prop)->Prop
def PG(X:Cx)(target:Expr)(t:TG):Prop:=
 ∀(pins:List (Addr×Obj)) (s:Shared) (σ:St) (H:Hp) (v:V) (u:Value) (Q:St->Hp->Prop),Inv X pins σ H s->RelV v u->t v σ H Q->
  wpAny (model X.prog X.w) X.A (assign target X.env u) (fun _ s'=>∃σ' H',Inv X pins σ' H' s'/\Q σ' H') X.xe s
def PGs(X:Cx)(ts:List Expr)(t:TGs):Prop:=
 ∀(pins:List (Addr×Obj)) (s:Shared) (σ:St) (H:Hp) (vs:List V) (us:List Value) (Q:St->Hp->Prop),Inv X pins σ H s->Vals vs us->t vs σ H Q->
  wpAny (model X.prog X.w) X.A (assignInOrder ((assignEach ts X.env).map (·.2)) us) (fun _ s'=>∃σ' H',Inv X pins σ' H' s'/\Q σ' H') X.xe s
section
variable {X:Cx} {pos:Pos}
def bp(i:Nat):TG:=fun v σ H Q=>Q (σ.set i (some v)) H
theorem kS{i:Nat}{x:Str}(hN:X.N.Nodup)(hi:X.N[i]?=some x)(hx:Loc X.env.scope x)(hf:X.fn x=true\/X.env.scope.names.lookup x=some .local:=by first | exact .inl rfl | exact .inr rfl | assumption):PG X (.Name x pos) (bp i):=by intro pins s σ H v u Q I r h;exact wpAny_assign_Name (jc I hN hi hx r (fun s' I'=>zE _ H I' h) hf)
def wg:TGs:=fun vs σ H Q=>vs=[]/\Q σ H
def rq(t:TG)(u:TGs):TGs:=fun vs σ H Q=>∃v r,vs=v::r/\t v σ H fun σ' H'=>u r σ' H' Q
def wj(K:W.Frag)(n:Nat)(t:TGs):TG:=fun v σ H Q=>∃a xs,v=.ref a/\SqT K H a xs/\xs.length=n/\t xs σ H Q
def qW(te:TE)(g:TG):TS:=fun D σ H=>te σ H fun x H1=>g x σ H1 D.nx
theorem uq{i:Nat}{x:Str}{e:Expr}{te:TE}{pos':Pos}(hN:X.N.Nodup)(hi:X.N[i]?=some x)(hx:Loc X.env.scope x)(he:PE X e te)(hs:swapsWith e (some (.Name x pos')) pos.line X.env=pure false:=by rfl)(hf:X.fn x=true\/X.env.scope.names.lookup x=some .local:=by first | exact .inl rfl | exact .inr rfl | assumption):
  PS X (.Assign [.Name x pos'] e pos) (qW te (bp i)):=by
 intro pins s σ H D I h;refine wpAny_Assign_Name (thn (he pins s σ H _ I h) fun v s1 hhx=>?_) hs;obtain ⟨y,H1,I1,r1,q1⟩:=hhx;exact jc I1 hN hi hx r1 (fun s2 I2=>zE _ H1 I2 q1) hf
end
section
variable {X:Cx} {pos:Pos}
def pI(c:TT)(tb:TS):TS:=fun D σ H=>∃W:Nat->St->Hp->Prop,(∃m,W m σ H)/\∀m σ H,W m σ H->
 c σ H fun b H1=>if b=true then ∃N:St->Hp->Prop,(∀σ' H',N σ' H'->∃m',m'<m/\W m' σ' H')/\tb {D with nx:=N,ct:=N,bk:=D.nx} σ H1 else D.nx σ H1
end
structure It where
 go:Nat->Hp->Prop
 yld:Nat->Hp->V->Hp->Prop
 stop:Nat->Hp->Prop
def gI(X:Cx)(pins:List (Addr×Obj))(H:Hp)(b:Addr):Prop:=
 H b=none/\b≠X.env.locals/\b∉X.fs/\(b∈X.ex\/X.s₀.heap.objs.size<=b)/\(∀x c,X.env.cells.lookup x=some c->c≠b)/\∀p∈X.pn++pins,p.1≠b
theorem Inv.fpOk{X:Cx}{pins:List (Addr×Obj)}{σ:St}{H H':Hp}{s:Shared}{b:Addr}(I:Inv X pins σ H s)(hb:s.heap.objs.size<=b)(hn:H' b=none):gI X pins H' b:=by
 refine zT hn (vJ (dJ I.lt hb)) (I.nofs hb) (.inr (eO I.sz hb)) (fun x c e z=>?_) fun p hp z=>?_
 ·obtain ⟨v,q⟩:=I.cell x c e;exact absurd (dJ q.lt (by rw [z];exact hb)) (jZ _)
 ·exact absurd (dJ (zq7 (I.pin p hp).1) (by rw [z];exact hb)) (jZ _)
structure jo(P:Program)(w:World)(K:W.Frag)(tg:Expr)(J:It)(fp:List Addr)(it:Addr)(tn:Nat->Heap->Prop):Prop where
 mem:it∈fp
 obj:∀i h,tn i h->∀b∈fp,∃o,h.get? b=some o/\∀v,o.data≠.cell v
 keep:∀i h h',tn i h->(∀b∈fp,∀o,h.get? b=some o->h'.get? b=some o)->tn i h'
 item:∀(X:Cx),X.prog=P->X.w=w->X.K=K->X.calm=true->∀(i:Nat)(pins:List (Addr×Obj)) (s:Shared) (σ:St) (H:Hp) (E:Value->Shared->Prop),Inv X pins σ H s->(∀b∈fp,gI X pins H b)->tn i s.heap->J.go i H->
  wpAny (model P w) X.A (pyNext (.ref it)) (fun r s1=>∃u,r=some u/\
   wpAny (model P w) X.A (letOwnedTupleGo tg (.ref it) u) (fun _ s2=>∃x H',Inv X pins σ H' s2/\RelV x u/\J.yld i H x H'/\tn (i+1) s2.heap/\∀b∈fp,H' b=none) E s1) E s
 done:∀(X:Cx),X.prog=P->X.w=w->X.K=K->X.calm=true->∀(i:Nat)(pins:List (Addr×Obj)) (s:Shared) (σ:St) (H:Hp) (E:Value->Shared->Prop),Inv X pins σ H s->(∀b∈fp,gI X pins H b)->tn i s.heap->J.stop i H->
  wpAny (model P w) X.A (pyNext (.ref it)) (fun r s1=>r=none/\Inv X pins σ H s1) E s
 self:∀(A:Around)(i:Nat)(s:Shared)(Q:Value->Shared->Prop)(E:Value->Shared->Prop),tn i s.heap->Q (.ref it) s->wpAny (model P w) A (pyIter (.ref it)) Q E s
abbrev TI:=St->Hp->(It->Hp->Prop)->Prop
variable {P:Program} {tg:Expr}
def PIE(X:Cx)(pins:List (Addr×Obj))(σ:St)(tg:Expr)(R:It->Hp->Prop)(itv:Value)(s2:Shared):Prop:=
 ∃(it:Addr)(fp:List Addr)(tn:Nat->Heap->Prop)(J:It)(H':Hp),itv=.ref it/\Inv X pins σ H' s2/\jo X.prog X.w X.K tg J fp it tn/\tn 0 s2.heap/\(∀b∈fp,gI X pins H' b)/\R J H'
def PI(X:Cx)(tg iter:Expr)(wi:TI):Prop:=
 ∀(pins:List (Addr×Obj)) (s:Shared) (σ:St) (H:Hp) (R:It->Hp->Prop),Inv X pins σ H s->wi σ H R->
  wpAny (model X.prog X.w) X.A (eval iter X.env) (fun v s1=>wpAny (model X.prog X.w) X.A (pyIter v) (PIE X pins σ tg R) X.xe s1) X.xe s
theorem kG{M:Model}{A:Around}{E:Value->Shared->Prop}{s:Shared}{it:Addr}{u:Value}{o:Obj}{n:String}{vs:Array Value}{Q:Unit->Shared->Prop}(ho:s.heap.get? it=some o)(hc:o.cls=.type n)(hd:o.data=.fields vs)
 (hn:["enumerate","zip","dict_itemiterator","dict_reverseitemiterator","odict_iterator","itertools.zip_longest","itertools.pairwise"].contains n=false) (hQ:Q () s):wpAny M A (letOwnedTupleGo tg (.ref it) u) Q E s:=by
  unfold letOwnedTupleGo
  cases tg<;>first
    |exact wpAny_pure hQ
    | (cases u<;>first
        |exact wpAny_pure hQ
        | (refine wpAny_bind (wpAny_load ho ?_)
           rw [hc,hd];show wpAny M A (if (["enumerate","zip","dict_itemiterator","dict_reverseitemiterator","odict_iterator","itertools.zip_longest","itertools.pairwise"].contains n&&vs[0]?==some (rawInt _))=true then _ else _) Q E s;rw [if_neg (by intro h;rw [hn,ib] at h;cases h)];exact wpAny_pure hQ))
def Itl(K:W.Frag)(a:Addr):It:=
 ⟨fun i H=>∃xs x,SqL K H a xs/\xs[i]?=some x,fun i H x H'=>H'=H/\∀xs,SqL K H a xs->xs[i]?=some x,fun i H=>∃xs,SqL K H a xs/\xs.length<=i⟩
def Itt(K:W.Frag)(a:Addr):It:=
 ⟨fun i H=>∃xs x,SqT K H a xs/\xs[i]?=some x,fun i H x H'=>H'=H/\∀xs,SqT K H a xs->xs[i]?=some x,fun i H=>∃xs,SqT K H a xs/\xs.length<=i⟩
def Itr(lo:Int)(n:Nat):It:=⟨fun i _=>i<n,fun i H x H'=>H'=H/\x=.int (lo+i),fun i _=>n<=i⟩
theorem mC{w:World}{K:W.Frag}(a it:Addr):jo P w K tg (Itl K a) [it] it (fun i h=>h.IsListIter it a i) where
 mem:=by simp
 obj:=fun i h st b hb=>by
  have e:b=it:=by simpa using hb
  subst e;obtain ⟨o,e,c,d⟩:=st;exact zA o e fun v z=>by rw [d] at z;cases z
 keep:=fun i h h' st k=>st.at fun o e=>k it Jo o e
 item:=by intro X hP hw hK hc i pins s σ H E I hf st hg;subst hP hw hK;obtain ⟨xs,x,hq,hx⟩:=hg;obtain ⟨its,rv,p,hz⟩:=I.list hq;obtain ⟨u,hu,ru⟩:=rv.get hx;obtain ⟨f0,f1,f2,f3,f4,f5⟩:=hf it Jo;refine wpAny_pyNext_list_item st p.isList (x:=u) (by simpa using hu) fun h' st' sb=>?_;have I1:Inv X pins σ H {s with heap:=h'}:=I.turned (t':=s.toks) (fun b o hb e=>(sb.2 b hb).trans e) f0 f1 f3 f4 f5;obtain ⟨o,e,c,d⟩:=id st';exact zA u rfl (kG (s:={s with heap:=h'}) e c d Jm (zP x H I1 ru ⟨rfl,fun ys hy=>by rw [I.list_inj hy hq];exact hx⟩ st' fun b hb=>(hf b hb).1))
 done:=by intro X hP hw hK hc i pins s σ H E I hf st hg;subst hP hw hK;obtain ⟨xs,hq,hx⟩:=hg;obtain ⟨its,rv,p,hz⟩:=I.list hq;obtain ⟨f0,f1,f2,f3,f4,f5⟩:=hf it Jo;have hl:=rv.length;exact wpAny_pyNext_list_end (I.ok.hd hc) st p.isList (by simp;omega) fun h' eb=>⟨rfl,I.turned (t':=s.toks) (fun b o hb e=>eb b o hb e) f0 f1 f3 f4 f5⟩
 self:=fun _ _ _ _ _ st h=>wpAny_pyIter_listiter st h
theorem jX{w:World}{K:W.Frag}(a it:Addr):jo P w K tg (Itt K a) [it] it (fun i h=>h.IsTupleIter it a i) where
 mem:=by simp
 obj:=fun i h st b hb=>by
  have e:b=it:=by simpa using hb
  subst e;obtain ⟨o,e,c,d⟩:=st;exact zA o e fun v z=>by rw [d] at z;cases z
 keep:=fun i h h' st k=>st.at fun o e=>k it Jo o e
 item:=by intro X hP hw hK hc i pins s σ H E I hf st hg;subst hP hw hK;obtain ⟨xs,x,hq,hx⟩:=hg;obtain ⟨its,rv,p,hz⟩:=I.tuple hq;obtain ⟨u,hu,ru⟩:=rv.get hx;obtain ⟨f0,f1,f2,f3,f4,f5⟩:=hf it Jo;refine wpAny_pyNext_tuple_item st (show s.heap.IsTuple a its.toArray from p) (x:=u) (by simpa using hu) fun h' st' sb=>?_;have I1:Inv X pins σ H {s with heap:=h'}:=I.turned (t':=s.toks) (fun b o hb e=>(sb.2 b hb).trans e) f0 f1 f3 f4 f5;obtain ⟨o,e,c,d⟩:=id st';exact zA u rfl (kG (s:={s with heap:=h'}) e c d Jm (zP x H I1 ru ⟨rfl,fun ys hy=>by rw [I.tuple_inj hy hq];exact hx⟩ st' fun b hb=>(hf b hb).1))
 done:=by intro X hP hw hK hc i pins s σ H E I hf st hg;subst hP hw hK;obtain ⟨xs,hq,hx⟩:=hg;obtain ⟨its,rv,p,hz⟩:=I.tuple hq;obtain ⟨f0,f1,f2,f3,f4,f5⟩:=hf it Jo;have hl:=rv.length;exact wpAny_pyNext_tuple_end (I.ok.hd hc) st (show s.heap.IsTuple a its.toArray from p) (by simp;omega) fun h' eb=>⟨rfl,I.turned (t':=s.toks) (fun b o hb e=>eb b o hb e) f0 f1 f3 f4 f5⟩
 self:=fun _ _ _ _ _ st h=>wpAny_pyIter_tupleiter st h
theorem jW{w:World}{K:W.Frag}(it:Addr)(lo:Int)(n:Nat):jo P w K tg (Itr lo n) [it] it (fun i h=>IsRangeIter h it (lo+(i:Nat) * 1) ((n:Int)-(i:Nat)) 1) where
 mem:=by simp
 obj:=fun i h st b hb=>by
  have e:b=it:=by simpa using hb
  subst e;exact ⟨_,st,fun v z=>by
   have z':Data.fields _=Data.cell v:=z
   cases z'⟩
 keep:=fun i h h' st k=>k it Jo _ st
 item:=by intro X hP hw hK hc i pins s σ H E I hf st hg;subst hP hw hK;obtain ⟨f0,f1,f2,f3,f4,f5⟩:=hf it Jo;have W:=Walks.range (prog:=X.prog) (w:=X.w) (I.ok.hd hc) it lo 1 n;refine W.item i s _ _ hg st fun v h' tk hv st' kk=>?_;obtain ⟨t,rfl⟩:=hv;have I1:Inv X pins σ H {s with heap:=h',toks:=tk}:=I.turned (fun b o hb e=>kk b o (by simpa using hb) e) f0 f1 f3 f4 f5;refine zA _ rfl (kG (s:={s with heap:=h',toks:=tk}) (n:="range_iterator") st' rfl rfl Jm (zP (.int (lo+i)) H I1 ⟨t,?_⟩ ⟨rfl,rfl⟩ st' fun b hb=>(hf b hb).1));rw [Int.mul_one]
 done:=by intro X hP hw hK hc i pins s σ H E I hf st hg;subst hP hw hK;obtain ⟨f0,f1,f2,f3,f4,f5⟩:=hf it Jo;exact wpAny_pyNext_range_end (I.ok.hd hc) st (by have:n<=i:=hg;omega) fun h' eb=>⟨rfl,I.turned (t':=s.toks) (fun b o hb e=>eb b o hb e) f0 f1 f3 f4 f5⟩
 self:=fun _ _ _ _ _ st h=>wpAny_pyIter_rangeiter st h
end L2
namespace L2
variable {H:Hp} {g:TG} {pins:List (Addr×Obj)} {s:Shared} {σ:St}
section
variable {X:Cx} {tg:Expr}
def rA(K:W.Frag)(tl:TE):TI:=fun σ H R=>tl σ H fun x H1=>∃a,x=.ref a/\(∃xs,SqL K H1 a xs)/\R (Itl K a) H1
def wo(K:W.Frag)(tl:TE):TI:=fun σ H R=>tl σ H fun x H1=>∃a,x=.ref a/\(∃xs,SqT K H1 a xs)/\R (Itt K a) H1
theorem iU{R:It->Hp->Prop}{E:Value->Shared->Prop}{lo hi:Int}{t u v:Tok}{tk:Nat}(I:Inv X pins σ H s)(h1:-(2 ^ 62)<=lo)(h2:lo<2 ^ 62)(h3:-(2 ^ 62)<=hi)(h4:hi<2 ^ 62)
 (q:R (Itr lo (hi-lo).toNat) H):wpAny (model X.prog X.w) X.A (pyIter (.ref s.heap.objs.size)) (PIE X pins σ tg R) E {s with heap:=s.heap.push {cls:=.type "range",data:=.fields #[.int lo t,.int hi u,.int 1 v]},toks:=tk}:=by
 refine wpAny_pyIter_range (IsRange.new ..) (small_one h1 h2 h3 h4) ?_;have I1:Inv X pins σ H {s with heap:=s.heap.push {cls:=.type "range",data:=.fields #[.int lo t,.int hi u,.int 1 v]},toks:=tk}:=I.kept fun b o e=>cw _ e;refine ⟨(s.heap.push {cls:=.type "range",data:=.fields #[.int lo t,.int hi u,.int 1 v]}).objs.size,[(s.heap.push {cls:=.type "range",data:=.fields #[.int lo t,.int hi u,.int 1 v]}).objs.size],_,_,H,rfl,
  I1.kept (t':=tk) fun b o e=>cw _ e,jW _ lo (hi-lo).toNat,?_,fun b hb=>?_,q⟩
 ·have e1:lo+((0:Nat):Int) * 1=lo:=by simp
  have e2:(((hi-lo).toNat:Nat):Int)-((0:Nat):Int)=Builtin.Range.rangeSize lo hi 1:=by rw [rangeSize_one];split<;>omega
  show IsRangeIter _ _ (lo+((0:Nat):Int) * 1) ((((hi-lo).toNat:Nat):Int)-((0:Nat):Int)) 1;rw [e1,e2];exact dM _ rfl
 ·have e:b=(s.heap.push {cls:=.type "range",data:=.fields #[.int lo t,.int hi u,.int 1 v]}).objs.size:=by simpa using hb
  subst e;exact I1.fpOk (zq5 _) (I1.hok.fresh (zq5 _))
def rB(ta:TA):TI:=fun σ H R=>ta σ H fun vs H1=>∃j:Int,vs=[.int j]/\-(2 ^ 62)<=j/\j<2 ^ 62/\R (Itr 0 j.toNat) H1
def nA(ta:TA):TI:=fun σ H R=>ta σ H fun vs H1=>∃i j:Int,vs=[.int i,.int j]/\(-(2 ^ 62)<=i/\i<2 ^ 62/\-(2 ^ 62)<=j/\j<2 ^ 62)/\R (Itr i (j-i).toNat) H1
theorem mi{a b:Expr}{ta:TA}{p pos:Pos}(hg:Gl X "range") (hm:X.mg "range"=none) (ha:PA X [a,b] ta) (hs:starEach [a,b] X.env=[(false,eval a X.env),(false,eval b X.env)]:=by rfl) (hs2:starEach [b] X.env=[(false,eval b X.env)]:=by rfl) :
  PI X tg (.Call (.Name "range" p) [a,b] [] pos) (nA ta):=by
 intro pins s σ H R I h;refine Call_ (eu I hg hm boot_range (PyProof.Rows.callWith_type1 (thn (ha pos pins s σ H _ I h) fun us s1 hhx=>?_) (by rw [hs,hs2]) (by rw [hs2];rfl)));obtain ⟨vs,H1,I1,r1,q1⟩:=hhx;obtain ⟨i,j,e,⟨q1,q2,q3,q4⟩,q⟩:=q1;subst e
 cases r1 with
 |cons r rr=>
  cases rr with
  |cons r' rr=>
   cases rr
   obtain ⟨t,rfl⟩:=r;obtain ⟨t',rfl⟩:=r';exact call_range_2 (iU I1 q1 q2 q3 q4 q)
def vx(wi:TI)(g:TG)(tb:TS):TS:=fun D σ H=>wi σ H fun J H1=>∃W:Nat->Nat->St->Hp->Prop,(∃m,W 0 m σ H1)/\∀i m σ H,W i m σ H->
 (J.stop i H/\D.nx σ H)\/(J.go i H/\∃N:St->Hp->Prop,(∀σ' H',N σ' H'->∃m',m'<m/\W (i+1) m' σ' H')/\∀x H',J.yld i H x H'->g x σ H' fun σ2 H2=>tb {D with nx:=N,ct:=N,bk:=D.nx} σ2 H2)
def eF(fp:List Addr)(h:Heap):List (Addr×Obj):=fp.filterMap fun b=>(h.get? b).map fun o=>(b,o)
theorem cr{fp:List Addr}{h:Heap}{b:Addr}{o:Obj}(hb:b∈fp)(e:h.get? b=some o):(b,o)∈eF fp h:=List.mem_filterMap.mpr (zA b hb (by rw [e];rfl))
theorem ma{fp:List Addr}{h:Heap}{p:Addr×Obj}(hp:p∈eF fp h):p.1∈fp/\h.get? p.1=some p.2:=by
 obtain ⟨b,hb,e⟩:=List.mem_filterMap.mp hp
 cases q:h.get? b with
 |none=>rw [q] at e;cases e
 |some o=>rw [q] at e;have e':(b,o)=p:=Option.some.inj e;subst e';exact ⟨hb,q⟩
theorem Inv.pinned{fp:List Addr}(I:Inv X pins σ H s)(hf:∀b∈fp,gI X pins H b)(ho:∀b∈fp,∃o,s.heap.get? b=some o/\∀v,o.data≠.cell v):Inv X (pins++eF fp s.heap) σ H s:=
 I.pins_of fun p hp=>(zq10.mp hp).elim (fun z=>I.pin p (cx _ z)) fun z=>by obtain ⟨hb,e⟩:=ma z;obtain ⟨f0,f1,f2,_⟩:=hf p.1 hb;obtain ⟨o,e',d⟩:=ho p.1 hb;rw [e] at e';cases e';exact zJ e f0 f1 f2 d
theorem Inv.unpinned{pl:List (Addr×Obj)}(I:Inv X (pins++pl) σ H s):Inv X pins σ H s:=I.pins_of fun p hp=>I.pin p (cx _ (d9 _ hp))
theorem uo{iter:Expr}{body:List Stmt}{wi:TI}{tb:TS}{pos:Pos}(hp:PassesOwn (model X.prog X.w) X.A X.env X.xe)(hc:X.calm=true)(hi:PI X tg iter wi)(hg:PG X tg g)(hb:PSs X body tb)
 (hs:∀x,foldedSetIterable iter X.env x=pure x:=by intro _;rfl):PS X (.For tg iter body [] pos) (vx wi g tb):=by
 intro pins s σ H D I h;refine wpAny_For (thn (hi pins s σ H _ I h) fun v s1 h1=>thn h1 fun itv s2 h2=>?_) hs;obtain ⟨it,fp,tn,J,H2,e,I2,T,st2,f2,W,⟨m0,w0⟩,turn⟩:=h2;subst e;have stat:∀{H':Hp},(∀b∈fp,H' b=none)->∀b∈fp,gI X pins H' b:=fun hn b hb=>⟨hn b hb,(f2 b hb).2⟩
 refine codeAny_forLoop_any (fun n s'=>∃i σ' H',Inv X pins σ' H' s'/\tn i s'.heap/\(∀b∈fp,H' b=none)/\W i n σ' H') ?_ m0 (zK 0 σ H2 I2 st2 (fun b hb=>(f2 b hb).1) w0);rintro n s3 ⟨i,σ3,H3,I3,st3,fr3,w3⟩;rcases turn i n σ3 H3 w3 with ⟨stop,qn⟩ | ⟨go,N,hN,step⟩
 ·refine wpAny_passesOwn hp (thn (T.done X rfl rfl rfl hc i pins s3 σ3 H3 X.xe I3 (stat fr3) st3 stop) fun r s4 ⟨hr,I4⟩=>?_);subst hr;exact wpAny_execs_nil (zE σ3 H3 I4 qn)
 ·refine wpAny_passesOwn hp (thn (T.item X rfl rfl rfl hc i pins s3 σ3 H3 X.xe I3 (stat fr3) st3 go) fun r s4 ⟨u,hr,h4⟩=>?_);subst hr;refine wpAny_passesOwn hp (thn h4 fun _ s5 hhx=>?_);obtain ⟨x,H5,I5,r5,y5,st5,fr5⟩:=hhx;have I5':=I5.pinned (stat fr5) (T.obj _ _ st5);refine wpAny_passesOwn hp (thn (hg _ s5 σ3 H5 x u _ I5' r5 (step x H5 y5)) fun _ s6 hhx=>?_);obtain ⟨σ6,H6,I6,q6⟩:=hhx;refine wpAny_passesOwn hp (thn (hb _ s6 σ6 H6 _ I6 q6) fun f s7 q7=>?_);have again:∀{σ7:St} {H7:Hp},Inv X (pins++eF fp s5.heap) σ7 H7 s7->N σ7 H7->∃m,m<n/\∃i σ' H',Inv X pins σ' H' s7/\tn i s7.heap/\(∀b∈fp,H' b=none)/\W i m σ' H':=fun {σ7 H7} I7 n7=>by obtain ⟨m',hm,w7⟩:=hN σ7 H7 n7;refine zA m' hm (zK (i+1) σ7 H7 I7.unpinned (T.keep _ _ _ st5 fun b hb o e=>(I7.pin (b,o) (cx _ (cx _ (cr hb e)))).1) (fun b hb=>?_) w7);obtain ⟨o,e,d⟩:=T.obj _ _ st5 b hb;exact (I7.pin (b,o) (cx _ (cx _ (cr hb e)))).2.1
  cases f with
  |next=>obtain ⟨σ7,H7,I7,n7⟩:=q7;exact again I7 n7
  |cont=>obtain ⟨σ7,H7,I7,n7⟩:=q7;exact again I7 n7
  |brk=>obtain ⟨σ7,H7,I7,q7⟩:=q7;exact zE σ7 H7 I7.unpinned q7
  |ret v=>obtain ⟨x7,σ7,H7,I7,r7,q7⟩:=q7;exact zU x7 σ7 H7 I7.unpinned r7 q7
end
theorem nq{K:W.Frag}{a:Addr}{xs:List V}{tb:TS}{D:cy}(Pv:Nat->St->Hp->Prop)(h0:Pv 0 σ H)(hl:∀i σ H,i<=xs.length->Pv i σ H->SqL K H a xs)
 (hs:∀i x σ H,xs[i]?=some x->Pv i σ H->g x σ H fun σ2 H2=>tb {D with nx:=Pv (i+1),ct:=Pv (i+1),bk:=D.nx} σ2 H2) (hd:∀σ H,Pv xs.length σ H->D.nx σ H) :
 ∃W:Nat->Nat->St->Hp->Prop,(∃m,W 0 m σ H)/\∀i m σ H,W i m σ H->
   ((Itl K a).stop i H/\D.nx σ H)\/((Itl K a).go i H/\∃N:St->Hp->Prop,(∀σ' H',N σ' H'->∃m',m'<m/\W (i+1) m' σ' H')/\∀x H',(Itl K a).yld i H x H'->g x σ H' fun σ2 H2=>tb {D with nx:=N,ct:=N,bk:=D.nx} σ2 H2):=by
 refine zA (fun i m σ H=>m=xs.length-i/\i<=xs.length/\Pv i σ H) (zF xs.length Jo (ek _) h0) ?_;rintro i m σ H ⟨rfl,hi,p⟩;have q:=hl i σ H hi p
 by_cases hlt:i<xs.length
 ·refine .inr ⟨zE xs (xs[i]) q (by simp [hlt]),zA (Pv (i+1)) (fun σ' H' p'=>zG (xs.length-(i+1)) Jn rfl hlt p') fun x H' y=>?_⟩;obtain ⟨e,y⟩:=y;subst e;exact hs i x σ _ (y xs q) p
 ·have e:i=xs.length:=by omega
  subst e;exact .inl ⟨zA xs q (zq5 _),hd σ H p⟩
theorem lV{lo:Int}{n:Nat}{tb:TS}{D:cy}(Pv:Nat->St->Hp->Prop)(h0:Pv 0 σ H)
 (hs:∀i σ H,i<n->Pv i σ H->g (.int (lo+i)) σ H fun σ2 H2=>tb {D with nx:=Pv (i+1),ct:=Pv (i+1),bk:=D.nx} σ2 H2) (hd:∀σ H,Pv n σ H->D.nx σ H) :
 ∃W:Nat->Nat->St->Hp->Prop,(∃m,W 0 m σ H)/\∀i m σ H,W i m σ H->
   ((Itr lo n).stop i H/\D.nx σ H)\/((Itr lo n).go i H/\∃N:St->Hp->Prop,(∀σ' H',N σ' H'->∃m',m'<m/\W (i+1) m' σ' H')/\∀x H',(Itr lo n).yld i H x H'->g x σ H' fun σ2 H2=>tb {D with nx:=N,ct:=N,bk:=D.nx} σ2 H2):=by
 refine zA (fun i m σ H=>m=n-i/\i<=n/\Pv i σ H) (zF n Jo (ek _) h0) ?_;rintro i m σ H ⟨rfl,hi,p⟩
 by_cases hlt:i<n
 ·refine .inr ⟨hlt,zA (Pv (i+1)) (fun σ' H' p'=>zG (n-(i+1)) Jn rfl hlt p') fun x H' y=>?_⟩;obtain ⟨e,y⟩:=y;subst e y;exact hs i σ _ hlt p
 ·have e:i=n:=by omega
  subst e;exact .inl ⟨zq5 _,hd σ H p⟩
end L2
namespace L2
abbrev R2:=V->V->Hp->VK->Prop
def OpR(X:Cx)(f:Value->Value->Sem Value)(r:R2):Prop:=
 ∀(pins:List (Addr×Obj)) (s:Shared) (σ:St) (H:Hp) (x y:V) (v u:Value) (Q:VK),Inv X pins σ H s->RelV x v->RelV y u->r x y H Q->
  wpAny (model X.prog X.w) X.A (f v u) (EP X pins σ Q) X.xe s
def UnR(X:Cx)(f:Value->Sem Value)(r:V->Hp->VK->Prop):Prop:=
 ∀(pins:List (Addr×Obj)) (s:Shared) (σ:St) (H:Hp) (x:V) (v:Value) (Q:VK),Inv X pins σ H s->RelV x v->r x H Q->
  wpAny (model X.prog X.w) X.A (f v) (EP X pins σ Q) X.xe s
def c4(X:Cx)(f:Value)(r:List V->Hp->VK->Prop):Prop:=
 ∀(pins:List (Addr×Obj)) (s:Shared) (σ:St) (H:Hp) (xs:List V) (us:List Value) (Q:VK),Inv X pins σ H s->Vals xs us->r xs H Q->
  wpAny (model X.prog X.w) X.A (call f us) (EP X pins σ Q) X.xe s
def xS(X:Cx)(r:V->Hp->(Bool->Hp->Prop)->Prop):Prop:=
 ∀(pins:List (Addr×Obj)) (s:Shared) (σ:St) (H:Hp) (x:V) (v:Value) (Q:Bool->Hp->Prop),Inv X pins σ H s->RelV x v->r x H Q->
  wpAny (model X.prog X.w) X.A (truthy v) (TP X pins σ Q) X.xe s
def tOp(r:R2)(ta tb:TE):TE:=fun σ H Q=>ta σ H fun x H1=>tb σ H1 fun y H2=>r x y H2 Q
def tUn(r:V->Hp->VK->Prop)(ta:TE):TE:=fun σ H Q=>ta σ H fun x H1=>r x H1 Q
def rI(C:Int->Int->Prop)(g:Int->Int->V):R2:=fun x y H Q=>∃i j,x=.int i/\y=.int j/\C i j/\Q (g i j) H
def rI0(g:Int->Int->V):R2:=fun x y H Q=>∃i j,x=.int i/\y=.int j/\Q (g i j) H
def rU(g:Int->V):V->Hp->VK->Prop:=fun x H Q=>∃i,x=.int i/\Q (g i) H
section
variable {X:Cx} {a b c:Expr} {ta tb tc:TE} {pos:Pos}
theorem tN(ha:PE X a ta)(hb:PE X b tb){pins:List (Addr×Obj)}{s:Shared}{σ:St}{H:Hp}{R:V->V->Hp->Prop}(I:Inv X pins σ H s)
  (h:ta σ H fun x H1=>tb σ H1 fun y H2=>R x y H2) {Q:Value->Shared->Prop} {f:Value->Value->Sem Value}
  (hf:∀v u s2 x y H2,Inv X pins σ H2 s2->RelV x v->RelV y u->R x y H2->wpAny (model X.prog X.w) X.A (f v u) Q X.xe s2) :
  wpAny (model X.prog X.w) X.A (eval a X.env) (fun v s₁=>wpAny (model X.prog X.w) X.A (eval b X.env) (fun u s₂=>wpAny (model X.prog X.w) X.A (f v u) Q X.xe s₂) X.xe s₁) X.xe s:=by
 refine thn (ha pins s σ H _ I h) fun v s1 hhx=>?_;obtain ⟨x,H1,I1,r1,q1⟩:=hhx;refine thn (hb pins s1 σ H1 _ I1 q1) fun u s2 hhx=>?_;obtain ⟨y,H2,I2,r2,q2⟩:=hhx;exact hf v u s2 x y H2 I2 r1 r2 q2
theorem opI{f:Value->Value->Sem Value}{C:Int->Int->Prop}{g:Int->Int->Int}
  (rule:∀(i j:Int)(t u:Tok)(s:Shared)(Q:Value->Shared->Prop)(E:Value->Shared->Prop),C i j->Q (.int (g i j) s.toks) {s with toks:=s.toks+1}->wpAny (model X.prog X.w) X.A (f (.int i t) (.int j u)) Q E s) :
  OpR X f (rI C fun i j=>.int (g i j)):=by
 intro pins s σ H x y v u Q I rx ry h;obtain ⟨i,j,rfl,rfl,hc,q⟩:=h;obtain ⟨t,rfl⟩:=rx;obtain ⟨t',rfl⟩:=ry;exact rule i j t t' s _ _ hc (zB (.int (g i j)) H (I.tok _) ⟨_,rfl⟩ q)
theorem ww{f:Value->Value->Sem Value}{g:Int->Int->Int}
  (rule:∀(i j:Int)(t u:Tok)(s:Shared)(Q:Value->Shared->Prop)(E:Value->Shared->Prop),Q (.int (g i j) s.toks) {s with toks:=s.toks+1}->wpAny (model X.prog X.w) X.A (f (.int i t) (.int j u)) Q E s) :
  OpR X f (rI0 fun i j=>.int (g i j)):=by
 intro pins s σ H x y v u Q I rx ry h;obtain ⟨i,j,rfl,rfl,q⟩:=h;obtain ⟨t,rfl⟩:=rx;obtain ⟨t',rfl⟩:=ry;exact rule i j t t' s _ _ (zB (.int (g i j)) H (I.tok _) ⟨_,rfl⟩ q)
theorem qx{f:Value->Value->Sem Value}{g:Int->Int->Bool}
  (rule:∀(i j:Int)(t u:Tok)(s:Shared)(Q:Value->Shared->Prop)(E:Value->Shared->Prop),Q (.bool (g i j)) s->wpAny (model X.prog X.w) X.A (f (.int i t) (.int j u)) Q E s) :
  OpR X f (rI0 fun i j=>.bl (g i j)):=by
 intro pins s σ H x y v u Q I rx ry h;obtain ⟨i,j,rfl,rfl,q⟩:=h;obtain ⟨t,rfl⟩:=rx;obtain ⟨t',rfl⟩:=ry;exact rule i j t t' s _ _ (zB (.bl (g i j)) H I rfl q)
def mJ(i j:Int):Prop:=0<=j/\j<=1000000/\i.natAbs<2 ^ 64
def CMul(i j:Int):Prop:=(-(2 ^ 64)<i/\i<2 ^ 64)\/(-(2 ^ 64)<j/\j<2 ^ 64)
theorem CMul.ok{i j:Int}(h:CMul i j):IntMulOk i j:=by
 rcases h with ⟨h1,h2⟩ | ⟨h1,h2⟩
 ·exact .of_left (intBits_le_64 h1 h2)
 ·exact .of_right (intBits_le_64 h1 h2)
theorem ud:OpR X (binaryOp .Add) (rI0 fun i j=>.int (i+j)):=ww fun _ _ _ _ _ _ _ q=>add_int q
theorem ui:OpR X (binaryOp .Sub) (rI0 fun i j=>.int (i-j)):=ww fun _ _ _ _ _ _ _ q=>sub_int q
theorem uf:OpR X (binaryOp .Mult) (rI CMul fun i j=>.int (i * j)):=opI fun _ _ _ _ _ _ _ hc q=>mul_int q hc.ok
theorem ue:OpR X (binaryOp .Mod) (rI (fun _ j=>0<j) fun i j=>.int (i % j)):=opI fun i j _ _ _ _ _ hc q=>by have h1:(0:Int)<j:=hc;exact mod_int' Jn (by rw [Int.fmod_eq_emod_of_nonneg i Jn];exact q)
theorem ug:OpR X (binaryOp .Pow) (rI mJ fun i j=>.int (i ^ j.toNat)):=opI fun _ _ _ _ _ _ _ hc q=>pow_int_small hc.1 hc.2.1 hc.2.2 q
theorem uh:OpR X (binaryOp .LShift) (rI mJ fun i j=>.int (i * 2 ^ j.toNat)):=opI fun _ _ _ _ _ _ _ hc q=>lshift_int_small hc.1 hc.2.1 hc.2.2 q
theorem unI{f:Value->Sem Value}{g:Int->Int}
  (rule:∀(i:Int)(t:Tok)(s:Shared)(Q:Value->Shared->Prop)(E:Value->Shared->Prop),Q (.int (g i) s.toks) {s with toks:=s.toks+1}->wpAny (model X.prog X.w) X.A (f (.int i t)) Q E s) :
  UnR X f (rU fun i=>.int (g i)):=by
 intro pins s σ H x v Q I rx h;obtain ⟨i,rfl,q⟩:=h;obtain ⟨t,rfl⟩:=rx;exact rule i t s _ _ (zB (.int (g i)) H (I.tok _) ⟨_,rfl⟩ q)
theorem vE:UnR X (unaryOp .USub) (rU fun i=>.int (-i)):=unI fun _ _ _ _ _ q=>neg_int q
end
def jR:V->V->Bool
 | .non,.non=>true | .non,.int _=>true | .int _,.non=>true | .non,.bl _=>true | .bl _,.non=>true | .non,.str _=>true | .str _,.non=>true
 | .int _,.int _=>true | .bl _,.bl _=>true | .str _,.str _=>true | .byt _,.byt _=>true
 | .int _,.str _=>true | .str _,.int _=>true | .bl _,.str _=>true | .str _,.bl _=>true
 |_,_=>false
def rEq:R2:=fun x y H Q=>jR x y=true/\Q (.bl (decide (x=y))) H
def rNe:R2:=fun x y H Q=>jR x y=true/\Q (.bl (!decide (x=y))) H
theorem ky{i j:Int}:decide (V.int i=V.int j)=(i==j):=by rw [jg];simp
theorem mZ{i j:Bool}:decide (V.bl i=V.bl j)=(i==j):=by rw [jg];simp
theorem kz{i j:Str}:decide (V.str i=V.str j)=(i==j):=by rw [jg];simp
theorem kx{i j:Array UInt8}:decide (V.byt i=V.byt j)=(i.toList==j.toList):=by
 rw [jg]
 cases i
 cases j
 simp
section
variable {X:Cx} {a b c:Expr} {ta tb tc:TE} {pos:Pos}
theorem aQ{pins:List (Addr×Obj)}{σ:St}{H:Hp}{s:Shared}{Q:VK}{k k':Bool}(I:Inv X pins σ H s)(q:Q (.bl k) H)(e:k=k'):EP X pins σ Q (.bool k') s:=by subst e;exact zB (.bl k) H I rfl q
theorem bf:OpR X (compareOp .Eq) rEq:=by
 intro pins s σ H x y v u Q I rx ry h;obtain ⟨hs,q⟩:=h
 cases x with
 |non=>
  cases rx
  cases y with
  |non=>cases ry;exact PySem.EqNone.eq_none_none (aQ I q Jo)
  |bl j=>cases ry;exact PySem.EqNone.eq_none_bool (aQ I q Jo)
  |int j=>obtain ⟨t',rfl⟩:=ry;exact PySem.EqNone.eq_none_int (aQ I q Jo)
  |str j=>obtain ⟨t',rfl⟩:=ry;exact PySem.EqNone.eq_none_str (aQ I q Jo)
  |_=>exact absurd (show false=true from hs) zq3
 |bl i=>
  cases rx
  cases y with
  |non=>cases ry;exact PySem.EqNone.eq_bool_none (aQ I q Jo)
  |bl j=>cases ry;exact eq_bool (aQ I q mZ)
  |str j=>obtain ⟨t',rfl⟩:=ry;exact PySem.EqMixed.eq_bool_str (aQ I q Jo)
  |_=>exact absurd (show false=true from hs) zq3
 |int i=>
  obtain ⟨t,rfl⟩:=rx
  cases y with
  |non=>cases ry;exact PySem.EqNone.eq_int_none (aQ I q Jo)
  |int j=>obtain ⟨t',rfl⟩:=ry;exact eq_int (aQ I q ky)
  |str j=>obtain ⟨t',rfl⟩:=ry;exact PySem.EqMixed.eq_int_str (aQ I q Jo)
  |_=>exact absurd (show false=true from hs) zq3
 |str i=>
  obtain ⟨t,rfl⟩:=rx
  cases y with
  |non=>cases ry;exact PySem.EqNone.eq_str_none (aQ I q Jo)
  |bl j=>cases ry;exact PySem.EqMixed.eq_str_bool (aQ I q Jo)
  |int j=>obtain ⟨t',rfl⟩:=ry;exact PySem.EqMixed.eq_str_int (aQ I q Jo)
  |str j=>obtain ⟨t',rfl⟩:=ry;exact eq_str (aQ I q kz)
  |_=>exact absurd (show false=true from hs) zq3
 |byt i=>
  obtain ⟨t,rfl⟩:=rx
  cases y with
  |byt j=>obtain ⟨t',rfl⟩:=ry;exact W.eq_bytes (aQ I q kx)
  |_=>exact absurd (show false=true from hs) zq3
 |_=>cases y<;>exact absurd (show false=true from hs) zq3
theorem dB:OpR X (compareOp .NotEq) rNe:=by
 intro pins s σ H x y v u Q I rx ry h;obtain ⟨hs,q⟩:=h
 cases x with
 |non=>
  cases rx
  cases y with
  |non=>cases ry;exact PySem.EqNone.ne_none_none (aQ I q Jo)
  |bl j=>cases ry;exact PySem.EqNone.ne_none_bool (aQ I q Jo)
  |int j=>obtain ⟨t',rfl⟩:=ry;exact PySem.EqNone.ne_none_int (aQ I q Jo)
  |str j=>obtain ⟨t',rfl⟩:=ry;exact PySem.EqNone.ne_none_str (aQ I q Jo)
  |_=>exact absurd (show false=true from hs) zq3
 |bl i=>
  cases rx
  cases y with
  |non=>cases ry;exact PySem.EqNone.ne_bool_none (aQ I q Jo)
  |bl j=>cases ry;exact ne_bool (aQ I q (congrArg not mZ))
  |str j=>obtain ⟨t',rfl⟩:=ry;exact PySem.EqMixed.ne_bool_str (aQ I q Jo)
  |_=>exact absurd (show false=true from hs) zq3
 |int i=>
  obtain ⟨t,rfl⟩:=rx
  cases y with
  |non=>cases ry;exact PySem.EqNone.ne_int_none (aQ I q Jo)
  |int j=>obtain ⟨t',rfl⟩:=ry;exact ne_int (aQ I q (congrArg not ky))
  |str j=>obtain ⟨t',rfl⟩:=ry;exact PySem.EqMixed.ne_int_str (aQ I q Jo)
  |_=>exact absurd (show false=true from hs) zq3
 |str i=>
  obtain ⟨t,rfl⟩:=rx
  cases y with
  |non=>cases ry;exact PySem.EqNone.ne_str_none (aQ I q Jo)
  |bl j=>cases ry;exact PySem.EqMixed.ne_str_bool (aQ I q Jo)
  |int j=>obtain ⟨t',rfl⟩:=ry;exact PySem.EqMixed.ne_str_int (aQ I q Jo)
  |str j=>obtain ⟨t',rfl⟩:=ry;exact ne_str (aQ I q (congrArg not kz))
  |_=>exact absurd (show false=true from hs) zq3
 |byt i=>
  obtain ⟨t,rfl⟩:=rx
  cases y with
  |byt j=>obtain ⟨t',rfl⟩:=ry;exact W.ne_bytes (aQ I q (congrArg not kx))
  |_=>exact absurd (show false=true from hs) zq3
 |_=>cases y<;>exact absurd (show false=true from hs) zq3
theorem wA:OpR X (compareOp .Lt) (rI0 fun i j=>.bl (decide (i<j))):=qx fun _ _ _ _ _ _ _ q=>lt_int q
theorem wz:OpR X (compareOp .LtE) (rI0 fun i j=>.bl (decide (i<=j))):=qx fun _ _ _ _ _ _ _ q=>le_int q
theorem wy:OpR X (compareOp .Gt) (rI0 fun i j=>.bl (decide (j<i))):=qx fun _ _ _ _ _ _ _ q=>gt_int q
theorem wx:OpR X (compareOp .GtE) (rI0 fun i j=>.bl (decide (j<=i))):=qx fun _ _ _ _ _ _ _ q=>ge_int q
theorem gr:OpR X (compareOp .In) (fun x y H Q=>∃i j,x=.str i/\y=.str j/\Q (.bl (!(Builtin.Str.occurrences j i 0 j.length 1).isEmpty)) H):=by intro pins s σ H x y v u Q I rx ry h;obtain ⟨i,j,rfl,rfl,q⟩:=h;obtain ⟨t,rfl⟩:=rx;obtain ⟨t',rfl⟩:=ry;exact in_str (aQ I q rfl)
theorem aB(b:Expr){op:CmpOp}(h:op≠.In:=by decide)(h2:op≠.NotIn:=by decide):behindInMarks op b=false:=by
 have e1:(op==CmpOp.In)=false:=by cases op<;>first | rfl | exact absurd rfl h
 have e2:(op==CmpOp.NotIn)=false:=by cases op<;>first | rfl | exact absurd rfl h2
 cases b<;>simp [behindInMarks,e1,e2]
def pH(t:TE):TT:=fun σ H Q=>t σ H fun x H'=>∃k,x=.bl k/\Q k H'
def i4(r r':R2)(ta tb tc:TE):TE:=fun σ H Q=>ta σ H fun x H1=>tb σ H1 fun y H2=>r x y H2 fun z H3=>∃k,z=.bl k/\
 (if k=true then tc σ H3 fun w' H4=>r' y w' H4 Q else Q (.bl false) H3)
def tJ(K:W.Frag)(x:V)(H:Hp)(k:Bool):Prop:=
 match x with
 | .non=>k=false
 | .bl b=>k=b
 | .int i=>k=(i != 0)
 | .str y=>y.length<=sizeLine/\k=((y.length:Int) != 0)
 | .byt y=>y.size<=sizeLine/\k=((y.size:Int) != 0)
 | .ref p=>(∃xs,SqL K H p xs/\k=!xs.isEmpty)\/(∃xs,SqT K H p xs/\k=!xs.isEmpty)\/∃kvs,H p=some (.dK kvs)/\k=!kvs.isEmpty
 |_=>False
theorem jx{κ:Type}{kvs:List (κ×V)}{vs:List (κ×Value)}(r:KV kvs vs):(!vs.isEmpty)=!kvs.isEmpty:=by cases r<;>rfl
theorem fA{xs:List V}{its:List Value}(r:Vals xs its):(!its.toArray.isEmpty)=!xs.isEmpty:=by cases r<;>simp
theorem ey:(sizeLine:Nat)<2 ^ 63:=by rw [sizeLine_eq];decide
theorem vC:xS X (fun x H Q=>∃k,tJ X.K x H k/\Q k H):=by
 intro pins s σ H x v Q I rx h;obtain ⟨k,e,q⟩:=h;have hl:=ey;have hs:sizeLine=16777216:=sizeLine_eq
 cases x with
 |non=>
  cases rx
  have e':k=false:=e;subst e';exact truthy_none (zA H I q)
 |bl b=>
  cases rx
  have e':k=b:=e;subst e';exact wpAny_truthy_bool (zA H I q)
 |int i=>
  obtain ⟨t,rfl⟩:=rx;have e':k=(i != 0):=e;subst e';exact PySem.P.truthy_int (zA H I q)
 |str y=>
  obtain ⟨t,rfl⟩:=rx;obtain ⟨hy,e'⟩:y.length<=sizeLine/\k=((y.length:Int) != 0):=e;subst e';exact PySem.P.truthy_str Jn (zA H (I.tok _) q)
 |byt y=>
  obtain ⟨t,rfl⟩:=rx;obtain ⟨hy,e'⟩:y.size<=sizeLine/\k=((y.size:Int) != 0):=e;subst e';exact W.truthy_bytes Jn (zA H (I.tok _) q)
 |ref p=>
  cases rx
  have e':(∃xs,SqL X.K H p xs/\k=!xs.isEmpty)\/(∃xs,SqT X.K H p xs/\k=!xs.isEmpty)\/∃kvs,H p=some (.dK kvs)/\k=!kvs.isEmpty:=e;rcases e' with ⟨xs,hx,e'⟩ | ⟨xs,hx,e'⟩ | ⟨kvs,hx,e'⟩
  ·subst e';obtain ⟨its,r,pl,hz⟩:=I.list hx;have hlen:=r.length;exact wpAny_truthy_list pl.isList (by simp only [List.size_toArray];omega) (zA H (I.tok _) (by rw [fA r];exact q))
  ·subst e';obtain ⟨its,r,pl,hz⟩:=I.tuple hx;have hlen:=r.length;exact truthy_tuple pl (by simp only [List.size_toArray];omega) (zA H (I.tok _) (by rw [fA r];exact q))
  ·subst e';obtain ⟨hz,hS,vs,r,m⟩:kvs.length<=sizeLine/\(p==sysModules)=false/\∃vs,KV kvs vs/\s.heap.DictOf (bS X.prog X.w) p vs:=I.hok p _ hx;have hlen:kvs.length=vs.length:=Paired.length r;exact wpAny_truthy_dict hS m Jn (zA H (I.tok _) (by rw [jx r];exact q))
 |_=>exact (show False from e).elim
theorem oI(ha:PE X a ta)(he:∀whole,isTrue a X.env whole=(do let v <- whole;standAt a.pos;holding [v] (truthy v))):
  PT X a (fun σ H Q=>ta σ H fun x H'=>∃k,tJ X.K x H' k/\Q k H'):=by
 intro pins s σ H Q I h;exact isTrue_plain (thn (ha pins s σ H _ I h) fun v s1 ⟨x,H1,I1,r1,q1⟩=>vC pins s1 σ H1 x v Q I1 r1 q1) (he _)
theorem aM:OpR X (binaryOp .Add) (fun x y H Q=>∃i j,x=.str i/\y=.str j/\i.length+j.length<=sizeLine/\Q (.str (i++j)) H):=by intro pins s σ H x y v u Q I rx ry h;obtain ⟨i,j,rfl,rfl,hz,q⟩:=h;obtain ⟨t,rfl⟩:=rx;obtain ⟨t',rfl⟩:=ry;exact add_str (fun t' tk=>zB (.str (i++j)) H (I.tok _) ⟨_,rfl⟩ q) hz
theorem cW{x:V}{us:List Value}(r:Vals [x] us):∃u,us=[u]/\RelV x u:=by
 cases r with
 |cons r1 r2=>cases r2;exact zA _ rfl r1
theorem tH{x y:V}{us:List Value}(r:Vals [x,y] us):∃u w',us=[u,w']/\RelV x u/\RelV y w':=by
 cases r with
 |cons r1 r2=>
  cases r2 with
  |cons r3 r4=>cases r4;exact zB _ _ rfl r1 r3
theorem lI:c4 X (.type "int") (fun xs H Q=>(∃i,xs=[.int i]/\Q (.int i) H)\/∃k,xs=[.bl k]/\Q (.int (if k then 1 else 0)) H):=by
 intro pins s σ H xs us Q I r h;rcases h with ⟨i,rfl,q⟩ | ⟨k,rfl,q⟩
 ·obtain ⟨u,rfl,t,rfl⟩:=cW r;exact call_int_int (zB (.int i) H I ⟨_,rfl⟩ q)
 ·obtain ⟨u,rfl,r1⟩:=cW r
  cases r1
  exact call_int_bool (zB (.int (if k then 1 else 0)) H (I.tok _) ⟨_,rfl⟩ q)
theorem dP:c4 X (.type "str") (fun xs H Q=>∃i,xs=[.int i]/\i.natAbs.log2<1920/\Q (.str (toString i)) H):=by intro pins s σ H xs us Q I r h;obtain ⟨i,rfl,hz,q⟩:=h;obtain ⟨u,rfl,t,rfl⟩:=cW r;exact PySem.P.str_of_int hz (zB (.str _) H (I.tok _) ⟨_,rfl⟩ q)
end
end L2
namespace L2
structure ObjM(h:Heap)(x dx C:Addr)(mA:Str->Option Value):Prop where
 obj:h.get? x=some (W.instObj C dx)
 ns:h.Ns1 dx mA
 ne:dx≠x
theorem m8{h:Heap}{dx:Addr}{mA:Str->Option Value}(n:h.Ns1 dx mA):∃od,h.get? dx=some od/\∀name,W.lookIn name od=some (mA name):=by
 obtain ⟨o,es,ep,ho,hd,hk,_,hm⟩:=n;refine zA o ho fun name=>?_;have e:=hm name;unfold nsFind findBy at e;rw [<- Array.find?_toList] at e;unfold W.lookIn;rw [hd];dsimp only
 split
 ·rename_i y q
  rw [q] at e;exact congrArg some e
 ·rename_i q
  rw [q] at e;have a:es.toList.any (·.refKey)=false:=by rw [List.any_eq_false];intro y hy;obtain ⟨z,t,hkey⟩:=hk y (Array.mem_toList_iff.mp hy);simp [DictEntry.refKey,hkey]
  have a':¬es.toList.any (·.refKey)=true:=by rw [a];exact zq3
  rw [if_neg a'];exact congrArg some e
theorem ObjM.look{h:Heap}{x dx C:Addr}{mA:Str->Option Value}(I:ObjM h x dx C mA):∃od,W.InstAt h x (W.instObj C dx) C (some od)/\∀name,W.lookIn name od=some (mA name):=
 let ⟨od,ho,hl⟩:=m8 I.ns
 (zA od ⟨I.obj,rfl,rfl,ho⟩ hl)
section
variable {prog:Program} {w:World} {A:Around} {E:Value->Shared->Prop} {s:Shared} {K:W.Frag} {x dx C f:Addr} {mA:Str->Option Value} {name:Str} {v:Value}
theorem qg{expr:Bool}{Q:Value->Shared->Prop}(X:K.In s.heap)(I:ObjM s.heap x dx C mA)(hg:W.plainGet K C name=true)(hh:W.hasDictIn K C=true)
  (ha:W.findIn K (.ref C) name=some none) (hv:mA name=some v) (hv':W.handedIn v=true) (h:Q v {s with toks:=s.toks+1}) :
  wpAny (model prog w) A (getAttr (.ref x) name expr) Q E s:=by
 obtain ⟨od,J,hl⟩:=I.look;exact W.get_value X J (W.plainGet_of hg).1 (W.findObj_own hh ha rfl (by rw [hl,hv])) hv' h
theorem nu{pl:Sem Bool}{Q:Value×List Value->Shared->Prop}(X:K.In s.heap)(I:ObjM s.heap x dx C mA)(hg:W.plainGet K C name=true)
  (hf:W.findIn K (.ref C) name=some (some (.ref f))) (ht:W.isFn K (.ref f)=true) (hv:mA name=none) (h:Q (.ref f,[.ref x]) s) :
  wpAny (model prog w) A (getMethod (.ref x) name pl) Q E s:=by
 obtain ⟨od,J,hl⟩:=I.look;exact W.method_fn X J (W.plainGet_of hg).1 (W.plainGet_of hg).2 hf (beq_iff_eq.mp ht) (by show (W.lookIn name od).map (·.isSome)=some false;rw [hl,hv];rfl) h
theorem qU{ns:List Str}{Q:Unit->Shared->Prop}(X:K.In s.heap)(I:ObjM s.heap x dx C mA)
  (hs:W.findIn K (.ref C) "__setattr__"=some (some (.builtin "object.__setattr__"))) (hp:W.plainOver K C=true) (ht:W.takerIn K C name=some none) (hh:W.hasDictIn K C=true)
  (hw:PySem.Within mA ns) (hsz:ns.length<=sizeLine)
  (h:∀h',ObjM h' x dx C (fun y=>if y=name then some v else mA y)->Heap.SameBut dx s.heap h'->Q () {s with heap:=h',toks:=s.toks+2}) :
  wpAny (model prog w) A (setAttr (.ref x) name v) Q E s:=by
 obtain ⟨od,J,hl⟩:=I.look;refine W.set_plain X J hs (W.osa_open (s:={s with toks:=s.toks+1}) (r:=none) X J hp ht fun b=>?_);obtain ⟨cd,hc,hd'⟩:=W.any_some hh;have hx:s.heap.get? x=some ⟨.ref C,some dx,.plain,#[]⟩:=I.obj;refine wpAny_bind (wpAny_pure (wpAny_bind (wpAny_bind (wpAny_loadPart hx (wpAny_bind (W.Looks.here (s:={s with toks:=s.toks+1}) (W.looks_clsIn X hc) ?_))))));rw [hd'];refine wpAny_pure (a:=some dx) (wpAny_bind (wpAny_pure (wpAny_bind ?_)));refine wpAny_nsSet1 (s:={s with toks:=s.toks+1}) I.ns fun h' hn2 hs2=>?_;obtain ⟨oD,esD,epD,hoD,hdD,hcD⟩:=hn2.count (PySem.Within.cons name v hw);refine wpAny_bind (wpAny_lookBehind hoD (by rw [hdD];exact pastItsLine_dict (eO hcD (by rw [cj];omega))) ?_);exact wpAny_pure (h _ ⟨(hs2.2 _ (Ne.symm I.ne)).trans I.obj,hn2,I.ne⟩ hs2)
theorem nL{R:Result->Shared->Prop}{vs:List Value}{kw:List (Str×Value)}(X:K.In s.heap)(hm:W.makesIn K C=true)
  (hi:W.findIn K (.ref C) "__init__"=some (some (.ref f))) (hf:W.typeIn K (.ref f)=some (.type "function"))
  (h:codeAny (model prog w) (A.under (.builtin "type.__call__" ⟨.ref C::vs,kw⟩)) (.call (.ref f) ⟨.ref (s.heap.objs.size+1)::vs,kw⟩) (W.InitBack (s.heap.objs.size+1) R)
   {s with heap:=(s.heap.push W.emptyDict).push (W.instObj C s.heap.objs.size)}) :
  codeAny (model prog w) A (.call (.ref C) ⟨vs,kw⟩) R s:=by
 obtain ⟨hh,g,d,t,os⟩:=s;exact W.make_core (W.makes_of X hm) (W.looks_findIn X hi) (fun self=>W.bind_fn X self hf) (.inl rfl) h
end
def cu(f:Str)(v:V):List (Str×V)->List (Str×V)
 | []=>[(f,v)]
 | (g,x)::r=>if g=f then (g,v)::r else (g,x)::cu f v r
theorem eV(f g:Str)(v:V):∀fs:List (Str×V),(cu f v fs).lookup g=if g=f then some v else fs.lookup g
 | []=>by
  show List.lookup g [(f,v)]=_
  by_cases h:g=f
  ·have hb:(g==f)=true:=beq_iff_eq.mpr h;simp only [List.lookup,hb,if_pos h]
  ·have hb:(g==f)=false:=beq_eq_false_iff_ne.mpr h;simp only [List.lookup,hb,if_neg h]
 | (k,x)::r=>by
  have ih:=eV f g v r;rw [show cu f v ((k,x)::r)=(if k=f then (k,v)::r else (k,x)::cu f v r) from rfl]
  by_cases hk:k=f
  ·rw [if_pos hk]
   by_cases h:g=k
   ·have hb:(g==k)=true:=beq_iff_eq.mpr h;simp only [List.lookup,hb,if_pos (h.trans hk)]
   ·have hb:(g==k)=false:=beq_eq_false_iff_ne.mpr h;simp only [List.lookup,hb,if_neg (fun e:g=f=>h (e.trans hk.symm))]
  ·rw [if_neg hk]
   by_cases h:g=k
   ·have hb:(g==k)=true:=beq_iff_eq.mpr h;simp only [List.lookup,hb,if_neg (fun e:g=f=>hk (h.symm.trans e))]
   ·have hb:(g==k)=false:=beq_eq_false_iff_ne.mpr h;simp only [List.lookup,hb];exact ih
theorem er(f:Str)(v:V):∀fs:List (Str×V),f∈(cu f v fs).map (·.1)/\∀g,g∈fs.map (·.1)->g∈(cu f v fs).map (·.1)
 | []=>⟨by simp [cu],fun g h=>by simp at h⟩
 | (k,x)::r=>by
  obtain ⟨i1,i2⟩:=er f v r;rw [show cu f v ((k,x)::r)=(if k=f then (k,v)::r else (k,x)::cu f v r) from rfl]
  by_cases hk:k=f
  ·rw [if_pos hk];subst hk;exact ⟨Jo,fun g h=>by simpa using h⟩
  ·rw [if_neg hk];refine ⟨?_,fun g h=>?_⟩
   ·rw [cG];exact zq2 _ i1
   ·rw [cG] at h ⊢;rcases zq1.mp h with e | e
    ·exact zq1.mpr (.inl e)
    ·exact zq2 _ (i2 g e)
theorem eU(f:Str)(v:V):∀fs:List (Str×V),(cu f v fs).length<=fs.length+1
 | []=>by simp [cu]
 | (k,x)::r=>by
  have ih:=eU f v r;rw [show cu f v ((k,x)::r)=(if k=f then (k,v)::r else (k,x)::cu f v r) from rfl]
  by_cases hk:k=f
  ·rw [if_pos hk,cj,cj];omega
  ·rw [if_neg hk,cj,cj];omega
theorem RelO.some_of{v:V}{o:Option Value}(r:RelO (some v) o):∃u,o=some u/\RelV v u:=by
 cases o with
 |none=>exact (show False from r).elim
 |some u=>exact zA u rfl r
theorem RelO.none_of{o:Option Value}(r:RelO none o):o=none:=by
 cases o with
 |none=>rfl
 |some u=>exact (show False from r).elim
theorem lW{v:V}{u:Value}(r:RelV v u):W.handedIn u=true:=by
 cases v with
 |non=>cases (show u=Value.none from r);rfl
 |bl b=>cases (show u=Value.bool b from r);rfl
 |int i=>obtain ⟨t,e⟩:=(show ∃t,u=Value.int i t from r);cases e;rfl
 |str x=>obtain ⟨t,e⟩:=(show ∃t,u=Value.str x t from r);cases e;rfl
 |byt b=>obtain ⟨t,e⟩:=(show ∃t,u=Value.bytes b t from r);cases e;rfl
 |flt b=>obtain ⟨t,e⟩:=(show ∃t,u=Value.float b t from r);cases e;rfl
 |ref a=>cases (show u=Value.ref a from r);rfl
 |ty n=>cases (show u=Value.type n from r);rfl
section
variable {P:Program} {w:World} {H H':Hp} {h h':Heap} {a C dx:Addr} {fs fs':List (Str×V)}
theorem gR(hok:HOk P w H h)(e:H a=some (.ins C dx fs)):∃mA,ObjM h a dx C mA/\(∀f,RelO (fs.lookup f) (mA f))/\PySem.Within mA (fs.map (·.1))/\fs.length<=1000/\H dx=some (.own a):=by
 obtain ⟨d,z,ne,ob,mA,n,r,q⟩:=(show ObjOk P w H h a (.ins C dx fs) from hok a _ e)
 exact zo mA ⟨ob,n,ne⟩ r q z d
end
structure Cls(K:W.Frag)(C:Addr):Prop where
 pg:W.plainGet K C Str.empty=true
 hd:W.hasDictIn K C=true
 po:W.plainOver K C=true
 sa:W.findIn K (.ref C) "__setattr__"=some (some (.builtin "object.__setattr__"))
theorem Cls.get{K:W.Frag}{C:Addr}(c:Cls K C)(f:Str):W.plainGet K C f=true:=c.pg
def NoAttr(K:W.Frag)(C:Addr)(f:Str):Prop:=W.findIn K (.ref C) f=some none
theorem NoAttr.taker{K:W.Frag}{C:Addr}{f:Str}(n:NoAttr K C f):W.takerIn K C f=some none:=by unfold W.takerIn;rw [show W.findIn K (.ref C) f=some none from n];rfl
structure lF(K:W.Frag)(C:Addr)(m:Str)(f:Addr):Prop where
 at_:W.findIn K (.ref C) m=some (some (.ref f))
 fn:W.isFn K (.ref f)=true
 kp:W.keepIn K (.ref f)=true
section
variable {X:Cx} {pins:List (Addr×Obj)} {σ:St} {H:Hp} {s:Shared} {a C dx:Addr} {fs:List (Str×V)} {f:Str} {v:V} {A:Around} {E:Value->Shared->Prop}
theorem jw{b:Bool}{Q:Value->Shared->Prop}(I:Inv X pins σ H s)(e:H a=some (.ins C dx fs))(c:Cls X.K C)(n:NoAttr X.K C f)(l:fs.lookup f=some v)
  (h:∀u s',Inv X pins σ H s'->RelV v u->Q u s'):wpAny (model X.prog X.w) A (getAttr (.ref a) f b) Q E s:=by
 obtain ⟨mA,O,r,_,_,_⟩:=gR I.hok e;obtain ⟨u,hu,ru⟩:=RelO.some_of (v:=v) (o:=mA f) (by rw [<- l];exact r f);exact qg I.kIn O (c.get f) c.hd n hu (lW ru) (h u _ (I.tok _) ru)
theorem dF{m:Str}{g:Addr}{pl:Sem Bool}{Q:Value×List Value->Shared->Prop}(I:Inv X pins σ H s)(e:H a=some (.ins C dx fs))(c:Cls X.K C)(k:lF X.K C m g)(l:fs.lookup m=none)
  (h:Q (.ref g,[.ref a]) s):wpAny (model X.prog X.w) A (getMethod (.ref a) m pl) Q E s:=by
 obtain ⟨mA,O,r,_,_,_⟩:=gR I.hok e;have hn:mA m=none:=RelO.none_of (by rw [<- l];exact r m);exact nu I.kIn O (c.get m) k.at_ k.fn hn h
theorem jS{y:V}{u:Value}{Q:Unit->Shared->Prop}(I:Inv X pins σ H s)(e:H a=some (.ins C dx fs))(c:Cls X.K C)(n:NoAttr X.K C f)(hl:fs.length<1000)(ry:RelV y u)
  (h:∀s',Inv X pins σ (upd H a (.ins C dx (cu f y fs))) s'->Q () s'):wpAny (model X.prog X.w) A (setAttr (.ref a) f u) Q E s:=by
 obtain ⟨mA,O,r,wi,_,ho⟩:=gR I.hok e;have hz:(fs.map (·.1)).length<=sizeLine:=by rw [zq0,sizeLine_eq];omega
 refine qU I.kIn O c.sa c.po n.taker c.hd wi hz fun h' O' sb=>h _ ?_;have hd:∃o,h'.get? dx=some o:=let ⟨o,_,_,e',_⟩:=O'.ns;⟨o,e'⟩;refine I.write (x:=a) (e:=dx) (by rw [e];exact True.intro) (.inr ho) (fun b q hb z=>(sb.2 b hb).trans z) hd ?_;refine zJ (by rw [aC O.ne];exact ho) ?_ O.ne O'.obj (zF _ O'.ns (fun g=>?_) fun g hg=>?_)
 ·have:=eU f y fs;omega
 ·show RelO ((cu f y fs).lookup g) (if g=f then some u else mA g);rw [eV]
  by_cases q:g=f
  ·rw [if_pos q,if_pos q];exact ry
  ·rw [if_neg q,if_neg q];exact r g
 ·by_cases q:g=f
  ·rw [q];exact (er f y fs).1
  ·refine (er f y fs).2 g (wi g fun z=>hg ?_);show (if g=f then some u else mA g)=none;rw [if_neg q];exact z
theorem Inv.made(I:Inv X pins σ H s):Inv X pins σ (upd (upd H s.heap.objs.size (.own (s.heap.objs.size+1))) (s.heap.objs.size+1) (.ins C s.heap.objs.size []))
  {s with heap:=(s.heap.push W.emptyDict).push (W.instObj C s.heap.objs.size)}:=by
 have e1:(s.heap.push W.emptyDict).get? s.heap.objs.size=some W.emptyDict:=dM s.heap rfl;have e2:((s.heap.push W.emptyDict).push (W.instObj C s.heap.objs.size)).get? (s.heap.objs.size+1)=some (W.instObj C s.heap.objs.size):=by have:=dM (s.heap.push W.emptyDict) (o:=W.instObj C s.heap.objs.size) rfl;rwa [rb] at this
 have e3:(s.heap.push W.emptyDict).Ns s.heap.objs.size (fun _=>none):=zK W.emptyDict (#[]) _ e1 rfl (fun e he=>absurd he Jo) fun _=>rfl
 have I1:=I.laid (a:=s.heap.objs.size) (o:=.own (s.heap.objs.size+1)) (h':=s.heap.push W.emptyDict) (t':=s.toks) (fun b u q=>cw _ q) (zq5 _) ⟨_,e1⟩;refine I1.laid (a:=s.heap.objs.size+1) (o:=.ins C s.heap.objs.size []) (t':=s.toks) (fun b u q=>cw _ q) (vK (rb _ _)) ?_;have ne:s.heap.objs.size≠s.heap.objs.size+1:=cA (rc _);refine zJ (by rw [aC ne,upd_same]) (ek _) ne e2 (zF (fun _=>none) ((Heap.Ns1.of_empty e3).at fun o q=>cw _ q) (fun _=>True.intro) fun y hy=>absurd rfl hy)
theorem qb{prog:Program}{w:World}{env:Env}{e:Expr}{f:Str}{pos:Pos}{s:Shared}{Q:Value->Shared->Prop}(hb:attributeBase e f env (eval e env)=eval e env)
  (h:wpAny (model prog w) A (eval e env) (fun o s₁=>wpAny (model prog w) A (getAttr o f true) Q E s₁) E s):wpAny (model prog w) A (eval (.Attribute e f pos) env) Q E s:=
 Attribute_any_ h (by rw [arm_eval_Attribute,hb])
end
def xv(K:W.Frag)(ta:TE)(f:Str):TE:=fun σ H Q=>ta σ H fun x H1=>∃a C dx fs v,x=.ref a/\H1 a=some (.ins C dx fs)/\Cls K C/\NoAttr K C f/\fs.lookup f=some v/\Q v H1
def xp(K:W.Frag)(ta tv:TE)(f:Str):TS:=fun D σ H=>tv σ H fun y H1=>ta σ H1 fun x H2=>∃a C dx fs,x=.ref a/\H2 a=some (.ins C dx fs)/\Cls K C/\NoAttr K C f/\fs.length<1000/\
 D.nx σ (upd H2 a (.ins C dx (cu f y fs)))
section
variable {X:Cx} {o e value:Expr} {f:Str} {pos pos' tpos:Pos} {ta tv:TE}
theorem rC{pl:Sem Bool}{m:Str}{apos:Pos}{args:List Expr}{pins:List (Addr×Obj)}{s:Shared}{σ:St}{H:Hp}{Q:Value->Shared->Prop}{te:TE}(he:PE X e te)(I:Inv X pins σ H s)
  (h:te σ H fun x H1=>∃a C dx fs g,x=.ref a/\H1 a=some (.ins C dx fs)/\Cls X.K C/\lF X.K C m g/\fs.lookup m=none/\
   ∀s1,Inv X pins σ H1 s1->wpAny (model X.prog X.w) X.A (callWith pos (.ref g) [.ref a] (backTo pos (starEach args X.env)) (backToKw pos (keywordEach [] X.env))) Q X.xe s1)
  (ht:eval (.Call (.Attribute e m apos) args [] pos) X.env=(do
   let ov <- eval e X.env
   standAt apos.atName
   let (f,first) <- holding [ov] (getMethod ov m pl)
   callWith pos f first (backTo pos (starEach args X.env)) (backToKw pos (keywordEach [] X.env)))) :
  wpAny (model X.prog X.w) X.A (eval (.Call (.Attribute e m apos) args [] pos) X.env) Q X.xe s:=by
 refine W.methodCall_KW (pl:=pl) (thn (he pins s σ H _ I h) fun u s1 hhx=>?_) ht;obtain ⟨x,H1,I1,rx,a,C,dx,fs,g,ex,ea,c,k,l,q⟩:=hhx;subst ex;obtain rfl:u=Value.ref a:=rx;exact dF I1 ea c k l (q s1 I1)
end
section
variable {X:Cx} {pins:List (Addr×Obj)} {σ:St} {H:Hp} {s:Shared} {A:Around} {E:Value->Shared->Prop} {Q:Value->Shared->Prop} {c:Value} {b:Bool}
end
end L2
namespace L2
structure Room(k:Nat)(A:Around):Prop where
 hd:A.handled=none
 dp:A.depth+3 * k+5<recursionLimit
 un:A.units+16 * k+200<cLine
theorem Room.mono{j k:Nat}{A:Around}(r:Room k A)(h:j<=k):Room j A:=⟨r.hd,by have:=r.dp;omega,by have:=r.un;omega⟩
theorem Room.m{n m:Nat}{A:Around}(h:Room n A)(l:m<=n:=by first | decide | omega):Room m A:=h.mono l
theorem Room.deeper{k:Nat}{A:Around}(r:Room (k+1) A)(env:Env):Room k (A.deeper env):=
 ⟨r.hd,by have:=r.dp;show A.depth+1+3 * k+5<_;omega,by have:=r.un;show A.units+3+16 * k+200<_;omega⟩
theorem jz{A:Around}{C:Addr}{us:List Value}{kw:List (Str×Value)}:(A.under (.builtin "type.__call__" ⟨.ref C::us,kw⟩)).depth=A.depth+1:=by first | rfl | simp [Around.under,Code.weight,Code.isCreation,Code.isGuard,Code.isCaller,Code.frames,Code.isFrame,guardIds]
theorem jA{A:Around}{C:Addr}{us:List Value}{kw:List (Str×Value)}:(A.under (.builtin "type.__call__" ⟨.ref C::us,kw⟩)).units=A.units+1:=by first | rfl | simp [Around.under,Code.cUnits,Code.frames,Code.isFrame]
theorem Room.make{k:Nat}{A:Around}(r:Room (k+1) A)(C:Addr)(us:List Value)(kw:List (Str×Value)):Room k (A.under (.builtin "type.__call__" ⟨.ref C::us,kw⟩)):=
 ⟨r.hd,by have:=r.dp;rw [jz];omega,by have:=r.un;rw [jA];omega⟩
theorem Room.depth{k:Nat}{A:Around}(r:Room k A):A.depth<recursionLimit:=by have:=r.dp;omega
theorem Room.units{k:Nat}{A:Around}(r:Room k A):A.units+64<cLine:=by have:=r.un;omega
def my:TA:=fun _ H Q=>Q [] H
def pG(ta:TE)(tr:TA):TA:=fun σ H Q=>ta σ H fun x H1=>tr σ H1 fun xs H2=>Q (x::xs) H2
section
variable {X:Cx} {e:Expr} {es:List Expr} {te:TE} {t:TA} {pos:Pos}
theorem oz:PA X [] my:=fun _ _ _ _ H Q I h=>Calls.spliced_nil (zB ([]) H I .nil h)
theorem kP(ha:PE X e te)(hr:PA X es t)(hs:starEach (e::es) X.env=(false,eval e X.env)::starEach es X.env:=by rfl):PA X (e::es) (pG te t):=by intro pos pins s σ H Q I h;rw [hs];show wpAny _ _ (spliced ((false,eval e X.env)::backTo pos (starEach es X.env))) _ _ s;refine Calls.spliced_cons (thn (ha pins s σ H _ I h) fun u s1 hhx=>?_);obtain ⟨x,H1,I1,r1,q1⟩:=hhx;exact thn (hr pos pins s1 σ H1 _ I1 q1) fun us s2 ⟨xs,H2,I2,r2,q2⟩=>zB (x::xs) H2 I2 (.cons r1 r2) q2
def xC(t:TA):TE:=fun σ H Q=>t σ H fun xs H1=>xs.length<=sizeLine/\∀p,H1 p=none->Q (.ref p) (upd H1 p (.tup xs))
def xx(t:TA):TE:=fun σ H Q=>t σ H fun xs H1=>xs.length<=sizeLine/\∀p,H1 p=none->Q (.ref p) (upd H1 p (.lst xs))
end
abbrev Sp:=List V->Hp->VK->XK->Prop
abbrev CXT:=List Env->Hp->Shared->XK->Value->Shared->Prop
structure Env0(P:Program)(w:World)(K:W.Frag)(mg:Str->Option Value)(base:Heap)(A:Around)(outer:List Env)(s:Shared)(H:Hp):Prop where
 frames:A.frames=some outer
 mod:Mod K mg base
 bs:∀b o,base.get? b=some o->s.heap.get? b=some o/\H b=none
 bsz:base.objs.size<=s.heap.objs.size
 funs:s.heap.FunFrames base outer
 frf:∀b∈frs outer,H b=none
 hok:HOk P w H s.heap
 bare:AllBare s.gens
def CE(outer:List Env)(P:Program)(w:World)(H:Hp)(s:Shared)(Q:VK)(u:Value)(s':Shared):Prop:=
 ∃v H',s'.os=s.os/\AllBare s'.gens/\Un (frs outer) [] H H' s.heap s'.heap/\HOk P w H' s'.heap/\RelV v u/\Q v H'
def CR(CX:CXT)(outer:List Env)(P:Program)(w:World)(H:Hp)(s:Shared)(Q:VK)(E:XK)(r:Result)(s':Shared):Prop:=
 match r with
 | .ok (.ret u)=>CE outer P w H s Q u s'
 | .ok _=>False
 | .error e=>CX outer H s E e s'
structure FnOk(P:Program)(w:World)(K:W.Frag)(mg:Str->Option Value)(base:Heap)(CX:CXT)(k:Nat)(f:Addr)(fd:FuncData)(ps:List Str)(sp:Sp):Prop where
 len:∀vs H Q E,sp vs H Q E->vs.length=ps.length
 run:∀(A:Around)(outer:List Env)(s:Shared)(H:Hp)(args:Args)(us:List Value)(vs:List V)(Q:VK)(E:XK),Room k A->Env0 P w K mg base A outer s H->BindsTo s fd args (ps.zip us)->Vals vs us->sp vs H Q E->
  codeAny (model P w) A (.call (.ref f) args) (CR CX outer P w H s Q E) s
theorem FnOk.mono{P:Program}{w:World}{K:W.Frag}{mg:Str->Option Value}{base:Heap}{CX:CXT}{j k:Nat}{f:Addr}{fd:FuncData}{ps:List Str}{sp:Sp}(F:FnOk P w K mg base CX j f fd ps sp)(h:j<=k):
  FnOk P w K mg base CX k f fd ps sp:=⟨F.len,fun A outer s H args us vs Q E hr=>F.run A outer s H args us vs Q E (hr.mono h)⟩
theorem Env0.make{P:Program}{w:World}{K:W.Frag}{mg:Str->Option Value}{base:Heap}{A:Around}{outer:List Env}{s:Shared}{H:Hp}(e:Env0 P w K mg base A outer s H)(C:Addr)(us:List Value)(kw:List (Str×Value)):
  Env0 P w K mg base (A.under (.builtin "type.__call__" ⟨.ref C::us,kw⟩)) outer s H:=⟨by first | exact e.frames | (simpa [Around.under,Code.envs,Code.isFrame,pushEnvs] using e.frames),e.mod,e.bs,e.bsz,e.funs,e.frf,e.hok,e.bare⟩
section
variable {X:Cx} {pins:List (Addr×Obj)} {σ:St} {H:Hp} {s s':Shared}
theorem Inv.env0(I:Inv X pins σ H s):Env0 X.prog X.w X.K X.mg X.base X.A X.stack s H:=
 ⟨I.ok.frames,I.ok.mod,I.bs,eO I.ok.bsz I.sz,I.stack,I.stkFree,I.hok,I.bare⟩
theorem Inv.after{Q:VK}{u:Value}(I:Inv X pins σ H s)(h:CE X.stack X.prog X.w H s Q u s'):EP X pins σ Q u s':=by obtain ⟨v,H',os,bare,un,hok,r,q⟩:=h;obtain ⟨hh,g,d,t,os'⟩:=s';obtain rfl:os'=s.os:=os;exact zB v H' (I.call (h':=hh) (g':=g) (d':=d) (t':=t) (ch:=[]) un hok bare (fun b z=>absurd z Jo)) r q
end
def jd(sp:Sp)(dvs:List V)(E:XK)(t:TA):TE:=fun σ H Q=>t σ H fun vs H1=>sp (vs++dvs) H1 Q E
def ei(C:Addr)(m:Str)(sp:Sp)(dvs:List V)(E:XK)(ta:TE)(t:TA):TE:=fun σ H Q=>ta σ H fun x H1=>∃a dx fs,x=.ref a/\H1 a=some (.ins C dx fs)/\fs.lookup m=none/\
 t σ H1 fun vs H2=>sp (x::(vs++dvs)) H2 Q E
def je(C:Addr)(sp:Sp)(dvs:List V)(E:XK)(t:TA):TE:=fun σ H Q=>t σ H fun vs H1=>∀x dx,H1 x=none->H1 dx=none->dx≠x->
 sp (.ref x::(vs++dvs)) (upd (upd H1 dx (.own x)) x (.ins C dx [])) (fun v H2=>v=.non/\Q (.ref x) H2) E
def Binds(K:W.Frag)(fd:FuncData)(ps:List Str)(ds:List Value):Prop:=
 ∀(s:Shared)(us:List Value),K.In s.heap->(us++ds).length=ps.length->BindsTo s fd ⟨us,[]⟩ (ps.zip (us++ds))
theorem Binds.all{K:W.Frag}{fd:FuncData}{ps:List Str}(h:∀us:List Value,us.length=ps.length->bindArgs fd ⟨us,[]⟩=pure (ps.zip us)):Binds K fd ps []:=fun s us _ hl=>by rw [fU] at hl ⊢;exact .of_eq (h us hl)
def cX(CX:CXT)(X:Cx)(E:XK):Prop:=∀(pins:List (Addr×Obj)) (σ:St) (H:Hp) (s:Shared) (e:Value) (s':Shared),Inv X pins σ H s->CX X.stack H s E e s'->X.xe e s'
section
variable {X:Cx} {CX:CXT} {k:Nat} {f C:Addr} {fd:FuncData} {ps:List Str} {sp:Sp} {dvs:List V} {ds:List Value} {E:XK} {x m:Str} {p pos apos:Pos} {e o:Expr} {es:List Expr} {ta:TE} {t:TA}
theorem jP{pins:List (Addr×Obj)}{σ:St}{H:Hp}{s:Shared}{Q:VK}{us:List Value}{vs:List V}(F:FnOk X.prog X.w X.K X.mg X.base CX k f fd ps sp)(hr:Room k X.A)(hb:Binds X.K fd ps ds)(hd:Vals dvs ds)(hx:cX CX X E)
  (I:Inv X pins σ H s) (r:Vals vs us) (h:sp (vs++dvs) H Q E):wpAny (model X.prog X.w) X.A (call (.ref f) us) (EP X pins σ Q) X.xe s:=by
 have r2:Vals (vs++dvs) (us++ds):=r.append hd;have hl:(us++ds).length=ps.length:=by rw [<- r2.length];exact F.len _ _ _ _ h
 refine wpAny_call (codeAny_mono (F.run X.A X.stack s H ⟨us,[]⟩ (us++ds) (vs++dvs) Q E hr I.env0 (hb s us I.kIn hl) r2 h) fun r s' hq=>?_)
 cases r with
 |error e=>exact hx pins σ H s e s' I hq
 |ok fl=>
  cases fl with
  |ret u=>exact I.after hq
  |next=>exact False.elim hq
  |brk=>exact False.elim hq
  |cont=>exact False.elim hq
theorem qC(F:FnOk X.prog X.w X.K X.mg X.base CX k f fd ps sp)(hr:Room k X.A)(hg:Gl X x)(hm:X.mg x=some (.ref f))(hk:W.keepIn X.K (.ref f)=true)(hb:Binds X.K fd ps ds)(hd:Vals dvs ds)(hx:cX CX X E)
  (ha:PA X (e::es) t) (hdb:(x==("__debug__":Str))=false:=by decide) (he:starEach (e::es) X.env=(false,eval e X.env)::starEach es X.env:=by rfl) (hpl:(backTo pos (starEach es X.env)).any (·.1)=false:=by rfl) :
  PE X (.Call (.Name x p) (e::es) [] pos) (jd sp dvs E t):=by
 intro pins s σ H Q I h;refine wpAny_Call_Name_kw (gU I hg hm ?_ hdb);refine W.callWith_K (h₀:=X.base) I.ok.mod.kin hk (thn (ha pos pins s σ H _ I h) fun us s1 ⟨vs,H1,I1,r,q⟩=>⟨I1.kIn,?_⟩) he hpl;exact jP F hr hb hd hx I1 r q
theorem kR{pl:Sem Bool}(he:PE X o ta)(c:Cls X.K C)(hm:lF X.K C m f)(F:FnOk X.prog X.w X.K X.mg X.base CX k f fd ps sp)(hr:Room k X.A)(hb:Binds X.K fd ps ds)(hd:Vals dvs ds)(hx:cX CX X E)(ha:PA X (e::es) t)
  (hst:starEach (e::es) X.env=(false,eval e X.env)::starEach es X.env:=by rfl) (hpl:(backTo pos (starEach es X.env)).any (·.1)=false:=by rfl)
  (ht:eval (.Call (.Attribute o m apos) (e::es) [] pos) X.env=(do
   let ov <- eval o X.env
   standAt apos.atName
   let (f,first) <- holding [ov] (getMethod ov m pl)
   callWith pos f first (backTo pos (starEach (e::es) X.env)) (backToKw pos (keywordEach [] X.env))):=by rfl) :
  PE X (.Call (.Attribute o m apos) (e::es) [] pos) (ei C m sp dvs E ta t):=by
 intro pins s σ H Q I h;refine W.methodCall_KW (pl:=pl) (thn (he pins s σ H _ I h) fun u s1 hhx=>?_) ht;obtain ⟨x,H1,I1,rx,a,dx,fs,ex,ea,l,q⟩:=hhx;subst ex;obtain rfl:u=Value.ref a:=rx;refine dF I1 ea c hm l ?_;refine W.callWith_K (first:=[.ref a]) (h₀:=X.base) I.ok.mod.kin hm.kp (thn (ha pos pins s1 σ H1 _ I1 q) fun us s2 ⟨vs,H2,I2,r,q2⟩=>⟨I2.kIn,?_⟩) hst hpl;exact jP (us:=.ref a::us) (vs:=.ref a::vs) F hr hb hd hx I2 (.cons rfl r) q2
theorem oF{pl:Sem Bool}(he:PE X o ta)(c:Cls X.K C)(hm:lF X.K C m f)(F:FnOk X.prog X.w X.K X.mg X.base CX k f fd ps sp)(hr:Room k X.A)(hb:Binds X.K fd ps ds)(hd:Vals dvs ds)(hx:cX CX X E)
  (ht:eval (.Call (.Attribute o m apos) [] [] pos) X.env=(do
   let ov <- eval o X.env
   standAt apos.atName
   let (f,first) <- holding [ov] (getMethod ov m pl)
   callWith pos f first (backTo pos (starEach [] X.env)) (backToKw pos (keywordEach [] X.env))):=by rfl) :
  PE X (.Call (.Attribute o m apos) [] [] pos) (ei C m sp dvs E ta my):=by
 intro pins s σ H Q I h;refine W.methodCall_KW (pl:=pl) (thn (he pins s σ H _ I h) fun u s1 hhx=>?_) ht;obtain ⟨x,H1,I1,rx,a,dx,fs,ex,ea,l,q⟩:=hhx;subst ex;obtain rfl:u=Value.ref a:=rx;refine dF I1 ea c hm l ?_;exact W.callWith_K0 (first:=[.ref a]) I1.kIn hm.kp (jP (us:=[.ref a]) (vs:=[.ref a]) F hr hb hd hx I1 (.cons rfl .nil) q)
structure Mk(K:W.Frag)(C f:Addr):Prop where
 makes:W.makesIn K C=true
 init:W.findIn K (.ref C) "__init__"=some (some (.ref f))
 fn:W.isFn K (.ref f)=true
 kp:W.keepIn K (.ref C)=true
theorem pe{pins:List (Addr×Obj)}{σ:St}{H:Hp}{s:Shared}{Q:VK}{us:List Value}{vs:List V}(M:Mk X.K C f)(F:FnOk X.prog X.w X.K X.mg X.base CX k f fd ps sp)(hr:Room (k+1) X.A)(hb:Binds X.K fd ps ds)(hd:Vals dvs ds)
  (hx:cX CX X E) (I:Inv X pins σ H s) (r:Vals vs us)
  (h:∀x dx,H x=none->H dx=none->dx≠x->sp (.ref x::(vs++dvs)) (upd (upd H dx (.own x)) x (.ins C dx [])) (fun v H2=>v=.non/\Q (.ref x) H2) E) :
  wpAny (model X.prog X.w) X.A (call (.ref C) us) (EP X pins σ Q) X.xe s:=by
 have hq:=h (s.heap.objs.size+1) s.heap.objs.size (I.hok.fresh (rf _)) (I.hok.fresh (zq5 _)) (cA (rc _));have I2:=Inv.made (C:=C) I;have r2:Vals (V.ref (s.heap.objs.size+1)::(vs++dvs)) (Value.ref (s.heap.objs.size+1)::(us++ds)):=.cons rfl (r.append hd);have hl:(Value.ref (s.heap.objs.size+1)::us++ds).length=ps.length:=by have e:=r2.length;rw [F.len _ _ _ _ hq] at e;exact e.symm
 refine wpAny_call (nL (f:=f) I.kIn M.makes M.init (beq_iff_eq.mp M.fn) (codeAny_mono (F.run _ X.stack _ _ ⟨Value.ref (s.heap.objs.size+1)::us,[]⟩ (Value.ref (s.heap.objs.size+1)::(us++ds)) _ _ E (hr.make C us [])
  (I2.env0.make C us []) (hb _ (Value.ref (s.heap.objs.size+1)::us) I2.kIn hl) r2 hq) fun r s' hq'=>?_))
 cases r with
 |error e=>exact hx pins σ _ _ e s' I2 hq'
 |ok fl=>
  cases fl with
  |ret u=>
   obtain ⟨v,H',I3,rv,ev,q3⟩:=I2.after hq';subst ev;exact ⟨rv,zB (V.ref (s.heap.objs.size+1)) H' I3 rfl q3⟩
  |next=>exact False.elim hq'
  |brk=>exact False.elim hq'
  |cont=>exact False.elim hq'
theorem qE(M:Mk X.K C f)(F:FnOk X.prog X.w X.K X.mg X.base CX k f fd ps sp)(hr:Room (k+1) X.A)(hg:Gl X x)(hm:X.mg x=some (.ref C))(hb:Binds X.K fd ps ds)(hd:Vals dvs ds)(hx:cX CX X E)
  (ha:PA X (e::es) t) (hdb:(x==("__debug__":Str))=false:=by decide) (he:starEach (e::es) X.env=(false,eval e X.env)::starEach es X.env:=by rfl) (hpl:(backTo pos (starEach es X.env)).any (·.1)=false:=by rfl) :
  PE X (.Call (.Name x p) (e::es) [] pos) (je C sp dvs E t):=by
 intro pins s σ H Q I h;refine wpAny_Call_Name_kw (gU I hg hm ?_ hdb);refine W.callWith_K (h₀:=X.base) I.ok.mod.kin M.kp (thn (ha pos pins s σ H _ I h) fun us s1 ⟨vs,H1,I1,r,q⟩=>⟨I1.kIn,?_⟩) he hpl;exact pe M F hr hb hd hx I1 r q
end
section
variable {X:Cx} {CX:CXT} {k:Nat} {f C:Addr} {fd:FuncData} {ps ks:List Str} {sp:Sp} {E:XK} {x m:Str} {p pos apos kpos:Pos} {e o:Expr} {es:List Expr} {kws:List Keyword} {te ta:TE} {t tk:TA} {nm:Option Str}
variable {g:List Value->List Value->List Value} {gV:List V->List V->List V}
end
structure aG(N P:List Str)(sc:Scope):Prop where
 kind:sc.kind=.function
 co:sc.isCoroutine=false
 gen:sc.isGenerator=false
 nd:N.Nodup
 pre:N.take P.length=P
 par:∀x∈P,sc.names.lookup x=some .local\/sc.names.lookup x=some .cell
 nofree:∀y∈sc.names,y.2≠.free
theorem g9{kindOf:Str->Option NameKind}{x:Str}:∀{binds:List (Str×Value)} {m:Str->Option Value},(∀v,(x,v)∉binds)->bindL kindOf binds m x=m x
 | [],_,_=>rfl
 | (n,v)::r,m,h=>by
  unfold bindL;rw [g9 fun w hw=>h w (zq2 _ hw)]
  split
  ·have:x≠n:=by rintro rfl;exact h v zq4
   simp [this]
  ·rfl
theorem g7{kindOf:Str->Option NameKind}{x:Str}:∀{binds:List (Str×Value)} {m:Str->Option Value},(∀v,(x,v)∉binds)->bindC kindOf binds m x=m x
 | [],_,_=>rfl
 | (n,v)::r,m,h=>by
  unfold bindC;rw [g7 fun w hw=>h w (zq2 _ hw)]
  split
  ·rfl
  ·have:x≠n:=by rintro rfl;exact h v zq4
   simp [this]
theorem g8{kindOf:Str->Option NameKind}{x:Str}{v:Value}:∀{P:List Str} {vs:List Value} {i:Nat} {m:Str->Option Value},P.Nodup->P[i]?=some x->vs[i]?=some v->kindOf x=some .local->
  bindL kindOf (P.zip vs) m x=some v
 | [],_,_,_,_,h,_,_=>by simp at h
 |_::_,[],_,_,_,_,h,_=>by simp at h
 |p::P,w::vs,0,m,nd,h1,h2,hk=>by
  simp at h1 h2;subst h1;subst h2;show bindL kindOf ((p,w)::P.zip vs) m p=_;unfold bindL;rw [g9 fun v hv=>(zq16.mp nd).1 (vL hv).1,if_pos hk];simp
 |p::P,w::vs,i+1,m,nd,h1,h2,hk=>by show bindL kindOf ((p,w)::P.zip vs) m x=_;unfold bindL;exact g8 (i:=i) (zq16.mp nd).2 (by simpa using h1) (by simpa using h2) hk
theorem fZ{kindOf:Str->Option NameKind}{x:Str}{v:Value}:∀{P:List Str} {vs:List Value} {i:Nat} {m:Str->Option Value},P.Nodup->P[i]?=some x->vs[i]?=some v->kindOf x≠some .local->
  bindC kindOf (P.zip vs) m x=some v
 | [],_,_,_,_,h,_,_=>by simp at h
 |_::_,[],_,_,_,_,h,_=>by simp at h
 |p::P,w::vs,0,m,nd,h1,h2,hk=>by
  simp at h1 h2;subst h1;subst h2;show bindC kindOf ((p,w)::P.zip vs) m p=_;unfold bindC;rw [g7 fun v hv=>(zq16.mp nd).1 (vL hv).1,if_neg hk];simp
 |p::P,w::vs,i+1,m,nd,h1,h2,hk=>by show bindC kindOf ((p,w)::P.zip vs) m x=_;unfold bindC;exact fZ (i:=i) (zq16.mp nd).2 (by simpa using h1) (by simpa using h2) hk
def start(N:List Str)(vs:List V):St:=vs.map some++List.replicate (N.length-vs.length) none
def ju(CX:CXT)(P:Program)(w:World)(K:W.Frag)(mg:Str->Option Value)(base:Heap)(N:List Str)(qual:Str)(scope:Scope)(f:Addr)(cd:Value)(A:Around)(outer:List Env)(s:Shared)(H:Hp)(E:XK):Cx where
 prog:=P
 w:=w
 K:=K
 mg:=mg
 base:=base
 A:=A.deeper (envOfC qual scope s.heap.objs.size f cd)
 N:=N
 s₀:=s
 H₀:=H
 env:=envOfC qual scope s.heap.objs.size f cd
 outer:=outer
 stack:=envOfC qual scope s.heap.objs.size f cd::outer
 ex:=[]
 calm:=true
 fn:=fun _=>true
 pn:=[]
 xe:=fun e s'=>wpAny (model P w) (A.deeper (envOfC qual scope s.heap.objs.size f cd)) (leaving (envOfC qual scope s.heap.objs.size f cd) e) (fun _ s''=>CX outer H s E e s'') (fun e' s''=>CX outer H s E e' s'') s'
theorem iu{sc:Scope}{n:Nat}{x:Str}(h:sc.names.lookup x=some .cell):∃c,(cellsFrom n sc.names []).lookup x=some c:=by have q:=W.cellsFrom_some sc.names n [] (.inl h);exact Option.isSome_iff_exists.mp q
theorem lY{CX:CXT}{P:Program}{w:World}{K:W.Frag}{mg:Str->Option Value}{base:Heap}{N ps:List Str}{qual:Str}{scope:Scope}{f:Addr}{cd:Value}{A:Around}{outer:List Env}{s s1:Shared}{H:Hp}{E:XK}{us:List Value}{vs:List V}
  (S:aG N ps scope) (hd:A.handled=none) (e0:Env0 P w K mg base A outer s H) (hl:vs.length=ps.length) (r:Vals vs us)
  (x:InCallC s s.heap.objs.size (bindL (envOfC qual scope s.heap.objs.size f cd).kindOf (ps.zip us) fun _=>none) (cellsFrom (s.heap.objs.size+1) scope.names []) (bindC (envOfC qual scope s.heap.objs.size f cd).kindOf (ps.zip us) fun _=>none) s1) :
  Inv (ju CX P w K mg base N qual scope f cd A outer s H E) [] (start N vs) H s1:=by
 have hpl:ps.length<=N.length:=by have:=congrArg List.length S.pre;rw [eP] at this;omega
 obtain ⟨h1,tk,rfl,hk⟩:=x.done;have noA:∀b:Addr,b∉(ju CX P w K mg base N qual scope f cd A outer s H E).ex:=fun b z=>absurd (show b∈([]:List Addr) from z) Jo;refine ⟨⟨e0.mod,S.kind,rfl,rfl,zq5 _,fun y z c h1 h2=>?_,fun y hy=>?_,fun y c _ h=>?_,fun _=>hd,Around.frames_deeper e0.frames,.inr ⟨rfl,rfl⟩,fun b z=>absurd z (noA b),e0.bs,e0.bsz,fun b _ _=>noA b,fun b z=>absurd z (noA b),e0.funs,e0.frf⟩,
  rfl,e0.bare,Un.kept hk,zA _ x.toInCall.ns fun i y v h1 h2 h3=>?_,fun y c h=>⟨_,x.cell y c h⟩,e0.hok.fresh (zq5 _),fun y c h=>?_,fun p hp=>absurd (show p∈([]:List (Addr×Obj)) from hp) Jo,e0.hok.kept hk,?_⟩
 ·exact name_of_addr x.apart (PySem.mem_of_lookup h1) (PySem.mem_of_lookup h2)
 ·have hy:scope.names.lookup y=some .cell\/scope.names.lookup y=some .free:=hy;rcases hy with hy | hy
  ·exact iu hy
  ·exact absurd rfl (S.nofree _ (PySem.mem_of_lookup hy))
 ·exact vH (x.above y c (PySem.mem_of_lookup h))
 ·have hi:i<vs.length:=by
   unfold start at h2
   by_cases hi:i<vs.length
   ·exact hi
   ·rw [pR (by simpa using hi)] at h2;rw [xK] at h2
    split at h2<;>cases h2
  have ha:vs[i]?=some v:=by
   unfold start at h2;rw [vM (by simpa using hi),da] at h2
   cases e:vs[i]? with
   |none=>rw [e] at h2;cases h2
   |some a=>rw [e] at h2;cases h2;rfl
  obtain ⟨u,hu,rv⟩:=r.get ha;have hp:ps[i]?=some y:=by rw [<- S.pre,List.getElem?_take_of_lt Jn];exact h1
  have ndP:ps.Nodup:=by rw [<- S.pre];exact S.nd.sublist (List.take_sublist _ _)
  refine zA u rv ?_;rcases S.par y (dN hp) with k | k
  ·exact .inl ⟨k,g8 ndP hp hu k⟩
  ·obtain ⟨c,e⟩:=iu (n:=s.heap.objs.size+1) k;refine .inr ⟨.inl k,zA c e ?_⟩;have q:=x.cell y c e;rw [fZ ndP hp hu (by show scope.names.lookup y≠_;rw [k];decide)] at q;exact q
 ·exact e0.hok.fresh (vH (x.above y c (PySem.mem_of_lookup h)))
 ·unfold start;show _=N.length;rw [zq8,zq0,xM];omega
theorem wf{CX:CXT}{P:Program}{w:World}{K:W.Frag}{mg:Str->Option Value}{base:Heap}{k:Nat}{f:Addr}{name qual:Str}{params:Arguments}{body:List Stmt}{scope:Scope}{dV kV doc pm cdv ct oc:Value}{an od:Option Addr}
  {osl:Array (Option Value)} {N ps:List Str} {sp:Sp} (lk:K.lookup f=some ⟨oc,od,.func (W.fnOf name qual params body scope dV kV doc pm an cdv ct),osl⟩) (hcd:W.codeIn K cdv qual=true) (S:aG N ps scope)
  (len:∀vs H Q E,sp vs H Q E->vs.length=ps.length)
  (hbody:∀(A:Around)(outer:List Env)(s:Shared)(H:Hp)(vs:List V)(Q:VK)(E:XK),Room k (A.deeper (envOfC qual scope s.heap.objs.size f cdv))->sp vs H Q E->
   ∃t,PSs (ju CX P w K mg base N qual scope f cdv A outer s H E) body t/\t {nx:=fun _ H'=>Q .non H',rt:=Q} (start N vs) H) :
  FnOk P w K mg base CX (k+1) f (W.fnOf name qual params body scope dV kV doc pm an cdv ct) ps sp:=by
 refine ⟨len,fun A outer s H args us vs Q E hr e0 hb r hsp=>?_⟩;have hl:=len _ _ _ _ hsp;have KX:K.In s.heap:=e0.mod.kin.keeps fun b o e=>(e0.bs b o e).1;have lim:s.heap.NoLimit:=e0.mod.nolimit.keeps fun b o e=>(e0.bs b o e).1;have hkind:∀y∈ps.zip us,scope.names.lookup y.1=some .local\/(scope.names.lookup y.1=some .cell/\((cellsFrom (s.heap.objs.size+1) scope.names []).lookup y.1).isSome=true):=fun ⟨n,v⟩ hy=>by
  rcases S.par n (vL hy).1 with q | q
  ·exact .inl q
  ·exact .inr ⟨q,W.cellsFrom_some _ _ _ (.inl q)⟩
 refine codeAny_call_function hr.depth (KX _ _ lk) rfl S.co S.gen rfl (W.codeRec_of KX hcd) (hb _ _ _ _ ?_);refine wpAny_newFunctionEnv_cells S.kind hkind fun env he s1 x=>?_;subst he;refine ⟨lim.keeps x.toInCall.keep,codeAny_func ?_⟩;obtain ⟨t,ht,hq⟩:=hbody A outer s H vs Q E (hr.deeper _) hsp;have I:Inv (ju CX P w K mg base N qual scope f cdv A outer s H E) [] (start N vs) H s1:=lY S hr.hd e0 hl r x;refine wpAny_mono (ht [] s1 (start N vs) H _ I hq) (fun fl s' hs=>?_) fun e s' hs=>hs;have fin:∀{σ':St} {H':Hp} {v:V} {u:Value},Inv (ju CX P w K mg base N qual scope f cdv A outer s H E) [] σ' H' s'->RelV v u->Q v H'->CE outer P w H s Q u s':=
  fun {σ' H' v u} J rv q=>zZ v H' J.os J.bare J.base J.hok rv q
 cases fl with
 |ret u=>
  obtain ⟨v,σ',H',J,rv,q⟩:=hs;exact fin J rv q
 |next=>
  obtain ⟨σ',H',J,q⟩:=hs;exact fin (v:=V.non) (u:=Value.none) J rfl q
 |brk=>
  obtain ⟨_,_,_,q⟩:=hs;exact False.elim q
 |cont=>obtain ⟨_,_,_,q⟩:=hs;exact False.elim q
end L2
namespace L2
section
variable {X:Cx} {x:Str} {p pos:Pos} {e:Expr} {es:List Expr} {t:TA} {id T:String} {r:List V->Hp->VK->Prop}
def tCB(r:List V->Hp->VK->Prop)(t:TA):TE:=fun σ H Q=>t σ H fun vs H1=>r vs H1 Q
theorem oA(hc:c4 X (.builtin id) r)(hg:Gl X x)(hm:X.mg x=none)(hv:bootBuiltins x=some (.builtin id))(ha:PA X (e::es) t)(hn:x≠"__name__":=by decide) (hdb:(x==("__debug__":Str))=false:=by decide)
  (he:starEach (e::es) X.env=(false,eval e X.env)::starEach es X.env:=by rfl) (hpl:(backTo pos (starEach es X.env)).any (·.1)=false:=by rfl):PE X (.Call (.Name x p) (e::es) [] pos) (tCB r t):=by
 intro pins s σ H Q I h;refine wpAny_Call_Name_kw (eu I hg hm hv ?_ hn hdb);exact PyProof.Rows.callWith_builtin1 (thn (ha pos pins s σ H _ I h) fun us s1 ⟨vs,H1,I1,r1,q1⟩=>hc pins s1 σ H1 vs us Q I1 r1 q1) he hpl
theorem mh(hc:c4 X (.type T) r)(hg:Gl X x)(hm:X.mg x=none)(hv:bootBuiltins x=some (.type T))(ha:PA X (e::es) t)(hn:x≠"__name__":=by decide) (hdb:(x==("__debug__":Str))=false:=by decide)
  (he:starEach (e::es) X.env=(false,eval e X.env)::starEach es X.env:=by rfl) (hpl:(backTo pos (starEach es X.env)).any (·.1)=false:=by rfl):PE X (.Call (.Name x p) (e::es) [] pos) (tCB r t):=by
 intro pins s σ H Q I h;refine wpAny_Call_Name_kw (eu I hg hm hv ?_ hn hdb);exact PyProof.Rows.callWith_type1 (thn (ha pos pins s σ H _ I h) fun us s1 ⟨vs,H1,I1,r1,q1⟩=>hc pins s1 σ H1 vs us Q I1 r1 q1) he hpl
end
end L2
end
namespace HT
open PySem PyProof.Rows
section
open PySem.SeqAt
open PySem.AutoSeq1 (wpAny_loadPart')
open PySem.MeetsSeq PySem.MeetsSeq2 PySem.MeetsSeq3
end
section
variable {prog:Program} {w:World} {A:Around} {E:Value->Shared->Prop} {s:Shared}
def sIx(n d:Nat):Option Int->Nat
 |none=>d
 |some v=>if v<0 then (v+(n:Int)).toNat else min v.toNat n
theorem iV(n d:Nat):sIx n d none=d:=rfl
theorem ff(n d k:Nat):sIx n d (some (k:Int))=min k n:=by show (if (k:Int)<0 then ((k:Int)+(n:Int)).toNat else min (k:Int).toNat n)=min k n;rw [if_neg Jn,fV]
theorem va(n d:Nat)(hd:d<=n)(o:Option Int):sIx n d o<=n:=by
 cases o with
 |none=>exact hd
 |some v=>
  show (if v<0 then (v+(n:Int)).toNat else min v.toNat n)<=n
  by_cases hv:v<0
  ·rw [if_pos hv];omega
  ·rw [if_neg hv];exact Nat.min_le_right _ _
theorem kq(v:Int)(n d:Nat):(if v<0 then max (v+(n:Int)) 0 else min v (n:Int))=((sIx n d (some v):Nat):Int):=by
 show (if v<0 then max (v+(n:Int)) 0 else min v (n:Int))=(((if v<0 then (v+(n:Int)).toNat else min v.toNat n):Nat):Int)
 by_cases hv:v<0
 ·simp only [if_pos hv];omega
 ·simp only [if_neg hv];omega
theorem jp(lo hi:Option Int)(n:Nat):Builtin.Slice.sliceAdjust lo hi 1 (n:Int)=(((sIx n 0 lo:Nat):Int),((sIx n n hi:Nat):Int)):=by
 have h1:¬((1:Int)<0):=by omega
 unfold Builtin.Slice.sliceAdjust;simp only [h1,if_false];refine Prod.ext ?_ ?_
 ·cases lo with
  |none=>rfl
  |some v=>exact kq v n 0
 ·cases hi with
  |none=>rfl
  |some v=>exact kq v n n
theorem jL(i j:Nat):Builtin.Slice.slicePlaces (i:Int) (j:Int) 1=j-i:=by
 unfold Builtin.Slice.slicePlaces;have h1:(1:Int)>0:=by omega
 simp only [h1,if_true,Int.ediv_one]
 split<;>omega
theorem fI{v:Value}{o:Option Int}{Q:Option Int->Shared->Prop}(p:IsPart v o)(h:Q o s):wpAny (model prog w) A (Builtin.Slice.slicePartIndex v) Q E s:=by
 cases p with
 |none=>exact slicePart_none h
 |int i t=>exact slicePart_int h
theorem cK{sl:Addr}{vl vu:Value}{lo hi:Option Int}{n:Nat}{Q:Int×Int×Nat->Shared->Prop}(hs:s.heap.IsSliceOf sl vl vu .none)(pl:IsPart vl lo)(pu:IsPart vu hi)
  (h:Q (((sIx n 0 lo:Nat):Int),1,sIx n n hi-sIx n 0 lo) s):wpAny (model prog w) A (Builtin.Slice.sliceApplied (.ref sl) (pure (n:Int))) Q E s:=by
 obtain ⟨os,hos,hcs,hds⟩:=id hs;unfold Builtin.Slice.sliceApplied Builtin.Slice.sliceFields;refine wpAny_bind (wpAny_bind (wpAny_field hos hds (x:=vl) rfl (wpAny_bind (wpAny_field hos hds (x:=vu) rfl (wpAny_bind (wpAny_field hos hds (x:=.none) rfl (wpAny_pure ?_)))))));refine wpAny_bind (slicePart_none ?_);show wpAny _ _ (if ((1:Int)==0)=true then _ else _) _ _ s;rw [if_neg Jm];refine wpAny_bind (fI pl (wpAny_bind (fI pu (wpAny_bind (wpAny_pure ?_)))));show wpAny _ _ (match Builtin.Slice.sliceAdjust lo hi 1 (n:Int) with | (lo,hi)=>pure (lo,(1:Int),Builtin.Slice.slicePlaces lo hi 1)) _ _ s;rw [jp lo hi n];show wpAny _ _ (pure (((sIx n 0 lo:Nat):Int),(1:Int),Builtin.Slice.slicePlaces ((sIx n 0 lo:Nat):Int) ((sIx n n hi:Nat):Int) 1)) _ _ s;rw [jL];exact wpAny_pure h
theorem oH(xs:Array Value)(i k:Nat):((List.range k).filterMap fun (m:Nat)=>xs[((i:Int)+(m:Int) * 1).toNat]?).toArray=((xs.toList.drop i).take k).toArray:=by
 have e:(fun (m:Nat)=>xs[((i:Int)+(m:Int) * 1).toNat]?)=fun m=>xs[i+m]?:=by
  funext m
  have:((i:Int)+(m:Int) * 1).toNat=i+m:=by omega
  rw [this]
 rw [e];have:=pick_run xs i k;rw [List.filterMap_map] at this;have e2:((fun x=>xs[x]?) ∘ fun x=>i+x)=fun m=>xs[i+m]?:=rfl;rw [e2] at this;rw [this]
theorem dX{t sl:Addr}{items:Array Value}{vl vu:Value}{lo hi:Option Int}{Q:Value->Shared->Prop}(ht:IsTup s.heap t items)(hs:s.heap.IsSliceOf sl vl vu .none)(pl:IsPart vl lo)(pu:IsPart vu hi)
  (hw:¬(sIx items.size 0 lo=0/\sIx items.size items.size hi=items.size))
  (h:Q (.ref s.heap.objs.size) {s with heap:=s.heap.push {cls:=.type "tuple",data:=.seq ((items.toList.drop (sIx items.size 0 lo)).take (sIx items.size items.size hi-sIx items.size 0 lo)).toArray}})
  (hsz:items.size<=sizeLine):wpAny (model prog w) A (getItem (.ref t) (.ref sl)) Q E s:=by
 have htake:sizeOk (.seq ((items.toList.drop (sIx items.size 0 lo)).take (sIx items.size items.size hi-sIx items.size 0 lo)).toArray):=by show ((items.toList.drop (sIx items.size 0 lo)).take (sIx items.size items.size hi-sIx items.size 0 lo)).toArray.size<=sizeLine;rw [cH,eP,pS,Array.length_toList];omega
 have hj:sIx items.size items.size hi<=items.size:=va _ _ (zq5 _) hi;obtain ⟨os,hos,hcs,hds⟩:=id hs;have hTs:s.TypeIs (.ref sl) "slice":=zA os hos hcs
 unfold getItem
 try with_reducible refine wpAny_holding ?_
 first | refine wpAny_bind (wpAny_pure ?_) | skip
 refine wpAny_bind (wpAny_sequenceKey ht.typeIs Jm ?_);refine wpAny_bind (wpAny_callSpecial?_slot (name:=Str.ofString "__getitem__") ht.typeIs PyProof.Rows.slot_tuple_getitem
  (wpAny_call_entry PyProof.Rows.slot_tuple_getitem ht.typeIs entry_tuple_getitem ?_ (args_tuple_getitem _ _)))
 show wpAny _ _ (Builtin.Tuple.tupleItemsOf (.ref t) >>= _) _ _ s;refine wpAny_bind (tupleItemsOf_ ht ?_);refine wpAny_bind (wpAny_typeOf hTs ?_);rw [if_pos Jm];refine wpAny_bind (cK hs pl pu ?_);have hno:¬((((sIx items.size 0 lo:Nat):Int)==0&&(1:Int)==1&&(sIx items.size items.size hi-sIx items.size 0 lo)==items.size)=true):=by intro q;rw [cR,cR] at q;have q1:((sIx items.size 0 lo:Nat):Int)=0:=eq_of_beq q.1.1;have q2:sIx items.size items.size hi-sIx items.size 0 lo=items.size:=eq_of_beq q.2;exact hw ⟨Jn,Jn⟩
 show wpAny _ _ (if (((sIx items.size 0 lo:Nat):Int)==0&&(1:Int)==1&&(sIx items.size items.size hi-sIx items.size 0 lo)==items.size)=true then _ else _) _ _ s;rw [if_neg hno,oH]
 first
  |exact wpAny_bind (m:=Builtin.Tuple.tupleExact _) (wpAny_newObj_type (wpAny_pure ⟨_,rfl,wpAny_pure h⟩) htake)
  |exact wpAny_bind (m:=Builtin.Tuple.tupleExact _) (wpAny_newObj_type (wpAny_bind (wpAny_pure (wpAny_pure ⟨_,rfl,wpAny_pure h⟩))) htake)
  |exact wpAny_bind (wpAny_bind (m:=Builtin.Tuple.tupleExact _) (wpAny_newObj_type (wpAny_pure (wpAny_pure ⟨_,rfl,wpAny_pure h⟩)) htake))
  |exact wpAny_bind (wpAny_bind (m:=Builtin.Tuple.tupleExact _) (wpAny_newObj_type (wpAny_pure ⟨_,rfl,wpAny_pure h⟩) htake))
end
end HT
section
open PySem PySem.Spec PyProof.Rows
namespace L2
abbrev TO:=St->Hp->(Option Int->Hp->Prop)->Prop
def PO(X:Cx)(e:Option Expr)(t:TO):Prop:=
 ∀(pins:List (Addr×Obj)) (s:Shared) (σ:St) (H:Hp) (Q:Option Int->Hp->Prop),Inv X pins σ H s->t σ H Q->
  wpAny (model X.prog X.w) X.A (evalPart e X.env) (fun u s'=>∃o H',Inv X pins σ H' s'/\IsPart u o/\Q o H') X.xe s
def lu:TO:=fun _ H Q=>Q none H
def tG(t:TE):TO:=fun σ H Q=>t σ H fun x H1=>∃i,x=.int i/\Q (some i) H1
section
variable {X:Cx} {e:Expr} {te:TE} {lo hi:Option Expr} {tl th:TO} {pos p2:Pos}
def SlR(X:Cx)(r:V->Option Int->Option Int->Hp->VK->Prop):Prop:=
 ∀(pins:List (Addr×Obj)) (s:Shared) (σ:St) (H:Hp) (x:V) (v vl vu:Value) (lo hi:Option Int) (sl:Addr) (Q:VK),Inv X pins σ H s->RelV x v->s.heap.IsSliceOf sl vl vu .none->IsPart vl lo->IsPart vu hi->r x lo hi H Q->
  ∃T id,typeLookup (.type T) "__getitem__"=pure (some (.builtin id))/\s.TypeIs v T/\wpAny (model X.prog X.w) X.A (getItem v (.ref sl)) (EP X pins σ Q) X.xe s
def tSl(r:V->Option Int->Option Int->Hp->VK->Prop)(te:TE)(tl th:TO):TE:=fun σ H Q=>te σ H fun x H1=>tl σ H1 fun l H2=>th σ H2 fun u H3=>r x l u H3 Q
def dE(xs:List V)(lo hi:Option Int):List V:=(xs.drop (HT.sIx xs.length 0 lo)).take (HT.sIx xs.length xs.length hi-HT.sIx xs.length 0 lo)
theorem eS(xs:List V)(lo hi:Option Int):(dE xs lo hi).length<=xs.length:=by unfold dE;rw [eP,pS];omega
def wJ(K:W.Frag):V->Option Int->Option Int->Hp->VK->Prop:=fun x lo hi H Q=>∃a xs,x=.ref a/\SqT K H a xs/\
 ¬(HT.sIx xs.length 0 lo=0/\HT.sIx xs.length xs.length hi=xs.length)/\∀p,H p=none->Q (.ref p) (upd H p (.tup (dE xs lo hi)))
theorem vw:SlR X (wJ X.K):=by
 intro pins s σ H x v vl vu lo hi sl Q I rx hs pl pu h;obtain ⟨a,xs,rfl,hx,hw,q⟩:=h
 cases rx
 obtain ⟨its,r,ht,hz⟩:=I.tuple hx;have hlen:its.toArray.size=xs.length:=by rw [cH];exact r.length.symm
 refine zB ("tuple") _ PyProof.Rows.slot_tuple_getitem.lookup ht.typeIs ?_;refine HT.dX ht hs pl pu (by rw [hlen];exact hw) ?_ (by rw [hlen];exact hz);rw [hlen];refine zB (.ref s.heap.objs.size) _ (I.laid (t':=s.toks) (o:=.tup (dE xs lo hi)) (fun b ob q=>cw _ q) (zq5 _) ?_) rfl (q _ (I.hok.fresh (zq5 _)));exact ⟨eO (eS xs lo hi) hz,zA _ ((r.drop (HT.sIx xs.length 0 lo)).take (HT.sIx xs.length xs.length hi-HT.sIx xs.length 0 lo)) (IsTup.new _ _)⟩
end
end L2
namespace L2
def ixN(n:Nat)(i:Int):Option Nat:=if 0<=i then (if i<n then some i.toNat else none) else if -(n:Int)<=i then some (i+n).toNat else none
def atI{α:Type}(xs:List α)(i:Int):Option α:=(ixN xs.length i).bind fun j=>xs[j]?
theorem ql{n:Nat}{i:Int}{j:Nat}(h:ixN n i=some j):seqIndex? i n=some j/\j<n/\-(n:Int)<=i/\i<n:=by
 unfold ixN at h
 by_cases h0:0<=i
 ·rw [if_pos h0] at h
  by_cases h1:i<n
  ·rw [if_pos h1] at h;have e:i.toNat=j:=Option.some.inj h;exact zH (by rw [seqIndex_of h0 h1,e]) Jn Jn h1
  ·rw [if_neg h1] at h;cases h
 ·rw [if_neg h0] at h
  by_cases h1:-(n:Int)<=i
  ·rw [if_pos h1] at h;have e:(i+n).toNat=j:=Option.some.inj h;exact zH (by rw [seqIndex_neg Jn h1,e]) Jn h1 Jn
  ·rw [if_neg h1] at h;cases h
theorem gJ{α:Type}{xs:List α}{i:Int}{v:α}(h:atI xs i=some v):∃j,seqIndex? i xs.length=some j/\xs[j]?=some v/\j<xs.length/\-(xs.length:Int)<=i/\i<xs.length:=by
 unfold atI at h
 cases e:ixN xs.length i with
 |none=>rw [e] at h;cases h
 |some j=>rw [e] at h;obtain ⟨h1,h2,h3,h4⟩:=ql e;exact zo j h1 h h2 h3 h4
theorem aP{α:Type}{xs:List α}{j:Nat}{v:α}(h:xs[j]?=some v):atI xs (j:Int)=some v:=by
 have hj:j<xs.length:=(zq19.mp h).1;have e:ixN xs.length (j:Int)=some j:=by unfold ixN;rw [if_pos Jn,if_pos Jn];simp
 unfold atI;rw [e];exact h
def q9(b:Expr):Prop:=∀o i,subscripted b false o i=operate [o,i] (getItem o i)
def IxR(X:Cx)(r:R2):Prop:=
 ∀(value slice:Expr)(pins:List (Addr×Obj)) (s:Shared) (σ:St) (H:Hp) (x y:V) (v u:Value) (Q:VK),Inv X pins σ H s->RelV x v->RelV y u->r x y H Q->
  subscripted slice false v u=operate [v,u] (getItem v u)->wpAny (model X.prog X.w) X.A (subscriptTail value slice v u) (EP X pins σ Q) X.xe s
def MtR(X:Cx)(id:String)(r:V->List V->Hp->VK->Prop):Prop:=
 ∀(pins:List (Addr×Obj)) (s:Shared) (σ:St) (H:Hp) (x:V) (xs:List V) (v:Value) (us:List Value) (Q:VK),Inv X pins σ H s->RelV x v->Vals xs us->r x xs H Q->
  wpAny (model X.prog X.w) X.A (call (.builtin id) (v::us)) (EP X pins σ Q) X.xe s
section
variable {X:Cx} {a b:Expr} {ta tb:TE} {pos:Pos}
def wF(K:W.Frag):R2:=fun x y H Q=>∃p xs i v,x=.ref p/\y=.int i/\SqL K H p xs/\atI xs i=some v/\Q v H
def uu(K:W.Frag):R2:=fun x y H Q=>∃p xs i v,x=.ref p/\y=.int i/\SqT K H p xs/\atI xs i=some v/\Q v H
def wG:R2:=fun x y H Q=>∃z i c,x=.str z/\y=.int i/\z.length<=sizeLine/\atI z.cps.toList i=some c/\Q (.str ⟨#[c]⟩) H
theorem aD:IxR X (wF X.K):=by
 intro value slice pins s σ H x y v u Q I rx ry h hs;obtain ⟨p,xs,i,z,rfl,rfl,hq,he,q⟩:=h
 cases rx
 obtain ⟨t,rfl⟩:=ry;obtain ⟨its,r,pl,hz⟩:=I.list hq;obtain ⟨j,h1,h2,h3,h4,h5⟩:=gJ he;obtain ⟨w,ew,rw'⟩:=r.get h2;have hl:=r.length;have hn:=ey;have fin:EP X pins σ Q w s:=zB z H I rw' q
 by_cases h0:0<=i
 ·have hj:i.toNat=j:=by rw [seqIndex_of h0 h5] at h1;exact Option.some.inj h1
  exact item_listR pl.isList h0 Jn (by rw [hj];simpa using ew) fin hs
 ·have hj:(i+(its.toArray.size:Int)).toNat=j:=by rw [seqIndex_neg Jn h4] at h1;rw [cH,<- hl];exact Option.some.inj h1
  exact subscriptTail_builtinR (x:=w) pl.isList.typeIs slot_list_getitem.lookup
   (wpAny_getItem_list_neg (Q:=fun r s'=>r=w/\EP X pins σ Q r s') pl.isList Jn (by rw [cH]<;>omega) Jn (by rw [hj];simpa using ew) ⟨rfl,fin⟩) hs
theorem aJ:IxR X (uu X.K):=by
 intro value slice pins s σ H x y v u Q I rx ry h hs;obtain ⟨p,xs,i,z,rfl,rfl,hq,he,q⟩:=h
 cases rx
 obtain ⟨t,rfl⟩:=ry;obtain ⟨its,r,pl,hz⟩:=I.tuple hq;obtain ⟨j,h1,h2,h3,h4,h5⟩:=gJ he;obtain ⟨w,ew,rw'⟩:=r.get h2;have hl:=r.length;have hn:=ey;have fin:EP X pins σ Q w s:=zB z H I rw' q
 exact subscriptTail_builtinR (x:=w) pl.typeIs slot_tuple_getitem.lookup
  (getItem_tuple (j:=j) (Q:=fun r s'=>r=w/\EP X pins σ Q r s') pl Jn Jn (by rw [cH,<- hl];exact h1) (by simpa using ew) ⟨rfl,fin⟩) hs
theorem nG:IxR X wG:=by
 intro value slice pins s σ H x y v u Q I rx ry h hs;obtain ⟨z,i,c,rfl,rfl,hz,he,q⟩:=h;obtain ⟨t,rfl⟩:=rx;obtain ⟨t',rfl⟩:=ry;obtain ⟨j,h1,h2,h3,h4,h5⟩:=gJ he;have hl:z.cps.toList.length=z.length:=by simp [Str.length]
 rw [hl] at h1 h4 h5;have hn:=ey;exact tail_any (typeIs_str s z t) slot_str_getitem.lookup (getItem_str (c:=c) (by have e1:decide (i < -(2 ^ 63:Int))=false:=decide_eq_false Jn;have e2:decide (i ≥ 2 ^ 63)=false:=decide_eq_false Jn;rw [e1,e2,Bool.or_false]) (by rw [h1];simpa using h2) (zB (.str ⟨#[c]⟩) H (I.tok _) ⟨_,rfl⟩ q)) hs
theorem hV(lo hi:Option Int)(n:Nat):(sliceBounds lo hi none n).1=((HT.sIx n 0 lo:Nat):Int)/\(sliceBounds lo hi none n).2.1=((HT.sIx n n hi:Nat):Int)/\(sliceBounds lo hi none n).2.2=1:=by
 refine zC ?_ ?_ rfl
 ·cases lo with
  |none=>simp [sliceBounds,HT.sIx]
  |some i=>
   simp only [sliceBounds,HT.sIx,Option.getD_none,show (1:Int)>0 by decide,if_true]
   by_cases h:i<0
   ·simp only [h,if_true]<;>omega
   ·simp only [h,if_false]<;>omega
 ·cases hi with
  |none=>simp [sliceBounds,HT.sIx]
  |some i=>
   simp only [sliceBounds,HT.sIx,Option.getD_none,show (1:Int)>0 by decide,if_true]
   by_cases h:i<0
   ·simp only [h,if_true]<;>omega
   ·simp only [h,if_false]<;>omega
theorem fT(its:List Value)(lo hi:Option Int):slicePick its.toArray lo hi none=((its.drop (HT.sIx its.length 0 lo)).take (HT.sIx its.length its.length hi-HT.sIx its.length 0 lo)).toArray:=by obtain ⟨h1,h2,h3⟩:=hV lo hi its.toArray.size;unfold slicePick;rw [h1,h2,h3];simp only [sliceRange_one,pick_run,List.size_toArray]<;>rfl
def wI(K:W.Frag):V->Option Int->Option Int->Hp->VK->Prop:=fun x lo hi H Q=>∃a xs,x=.ref a/\SqL K H a xs/\∀p,H p=none->Q (.ref p) (upd H p (.lst (dE xs lo hi)))
theorem dn:SlR X (wI X.K):=by
 intro pins s σ H x v vl vu lo hi sl Q I rx hs pl pu h;obtain ⟨a,xs,rfl,hx,q⟩:=h
 cases rx
 obtain ⟨its,r,ht,hz⟩:=I.list hx;have hlen:=r.length;refine zB ("list") _ slot_list_getitem.lookup ht.isList.typeIs ?_;refine wpAny_getItem_list_slice ht.isList hs pl pu .none Jo ?_ (by rw [List.size_toArray]<;>omega);rw [fT,<- hlen];refine zB (.ref s.heap.objs.size) _ (I.laid (t':=s.toks) (o:=.lst (dE xs lo hi)) (fun b ob q=>cw _ q) (zq5 _) ?_) rfl (q _ (I.hok.fresh (zq5 _)));exact ⟨eO (eS xs lo hi) hz,zE _ 0 ((r.drop (HT.sIx xs.length 0 lo)).take (HT.sIx xs.length xs.length hi-HT.sIx xs.length 0 lo)) (dM _ rfl)⟩
def cC:V->Bool
 | .non=>true
 | .bl _=>true
 | .int _=>true
 | .str _=>true
 |_=>false
def eqV:V->V->Bool
 | .non,.non=>true
 | .bl a,.bl b=>a==b
 | .bl a,.int b=>(if a then 1 else 0)==b
 | .int a,.bl b=>a==(if b then 1 else 0)
 | .int a,.int b=>a==b
 | .str a,.str b=>a==b
 |_,_=>false
theorem nh{A:Around}{s:Shared}{y x:V}{u v:Value}(ry:RelV y u)(rx:RelV x v)(fy:cC y=true)(fx:cC x=true):SeqAt.EqAt A s u v (eqV y x):=by
 cases y with
 |non=>
  cases ry
  cases x with
  |non=>cases rx;exact SeqAt.EqAt.same _
  |bl b=>cases rx;exact SeqAt.EqAt.none_bool b
  |int b=>obtain ⟨t,rfl⟩:=rx;exact SeqAt.EqAt.none_int b t
  |str b=>obtain ⟨t,rfl⟩:=rx;exact SeqAt.EqAt.none_str b t
  |_=>exact absurd (show false=true from fx) zq3
 |bl a=>
  cases ry
  cases x with
  |non=>cases rx;exact SeqAt.EqAt.bool_none a
  |bl b=>cases rx;exact SeqAt.EqAt.bool_bool a b
  |int b=>obtain ⟨t,rfl⟩:=rx;exact SeqAt.EqAt.bool_int a b t
  |str b=>obtain ⟨t,rfl⟩:=rx;exact SeqAt.EqAt.bool_str a b t
  |_=>exact absurd (show false=true from fx) zq3
 |int a=>
  obtain ⟨t',rfl⟩:=ry
  cases x with
  |non=>cases rx;exact SeqAt.EqAt.int_none a t'
  |bl b=>cases rx;exact SeqAt.EqAt.int_bool a t' b
  |int b=>obtain ⟨t,rfl⟩:=rx;exact SeqAt.EqAt.int_int a t' b t
  |str b=>obtain ⟨t,rfl⟩:=rx;exact SeqAt.EqAt.int_str a t' b t
  |_=>exact absurd (show false=true from fx) zq3
 |str a=>
  obtain ⟨t',rfl⟩:=ry
  cases x with
  |non=>cases rx;exact SeqAt.EqAt.str_none a t'
  |bl b=>cases rx;exact SeqAt.EqAt.str_bool a t' b
  |int b=>obtain ⟨t,rfl⟩:=rx;exact SeqAt.EqAt.str_int a t' b t
  |str b=>obtain ⟨t,rfl⟩:=rx;exact SeqAt.EqAt.str_str a t' b t
  |_=>exact absurd (show false=true from fx) zq3
 |_=>exact absurd (show false=true from fy) zq3
def eqU(x:V)(u:Value):Bool:=match u with
 | .none=>eqV .non x
 | .bool b=>eqV (.bl b) x
 | .int i _=>eqV (.int i) x
 | .str z _=>eqV (.str z) x
 |_=>false
theorem ni{x y:V}{u:Value}(r:RelV y u)(f:cC y=true):eqU x u=eqV y x:=by
 cases y with
 |non=>cases r;rfl
 |bl b=>cases r;rfl
 |int i=>obtain ⟨t,rfl⟩:=r;rfl
 |str z=>obtain ⟨t,rfl⟩:=r;rfl
 |_=>exact absurd (show false=true from f) zq3
theorem dO{x:V}:∀{xs:List V} {us:List Value},Vals xs us->xs.all cC=true->us.any (eqU x)=xs.any fun y=>eqV y x
 |_,_,.nil,_=>rfl
 |y::xs,u::us,.cons r t,f=>by rw [rg,cR] at f;rw [jh,jh,ni r f.1,dO t f.2]
theorem d6{A:Around}{s:Shared}{x:V}{v:Value}(rx:RelV x v)(fx:cC x=true):∀{xs:List V} {us:List Value},Vals xs us->xs.all cC=true->∀u∈us,SeqAt.EqAt A s u v (eqU x u)
 |_,_,.nil,_=>fun u hu=>by cases hu
 |y::xs,u::us,.cons r t,f=>fun u' hu=>by
  rw [rg,cR] at f;rcases zq1.mp hu with rfl | hu
  ·rw [ni r f.1];exact nh r rx f.1 fx
  ·exact d6 rx fx t f.2 u' hu
def inV(x:V)(xs:List V):Bool:=xs.any fun y=>eqV y x
def rIn(K:W.Frag)(neg:Bool):R2:=fun x y H Q=>∃p xs,y=.ref p/\(SqL K H p xs\/SqT K H p xs)/\cC x=true/\xs.all cC=true/\Q (.bl (if neg then !inV x xs else inV x xs)) H
theorem eD:OpR X (compareOp .In) (rIn X.K false):=by
 intro pins s σ H x y v u Q I rx ry h;obtain ⟨p,xs,rfl,hq,fx,fs,q⟩:=h
 cases ry
 rcases hq with hq | hq
 ·obtain ⟨its,r,pl,hz⟩:=I.list hq;refine SeqAt.in_listAt (eqU x) pl.isList (fun w hw=>d6 rx fx r fs w (by simpa using hw)) (zB (.bl _) H I rfl ?_);rw [show its.toArray.any (eqU x)=its.any (eqU x) by simp,dO r fs];exact q
 ·obtain ⟨its,r,pl,hz⟩:=I.tuple hq;refine SeqAt.in_tupleAt (eqU x) pl (fun w hw=>d6 rx fx r fs w (by simpa using hw)) (zB (.bl _) H I rfl ?_);rw [show its.toArray.any (eqU x)=its.any (eqU x) by simp,dO r fs];exact q
theorem h9:OpR X (compareOp .NotIn) (rIn X.K true):=by
 intro pins s σ H x y v u Q I rx ry h;obtain ⟨p,xs,rfl,hq,fx,fs,q⟩:=h
 cases ry
 rcases hq with hq | hq
 ·obtain ⟨its,r,pl,hz⟩:=I.list hq;refine SeqAt.notIn_listAt (eqU x) pl.isList (fun w hw=>d6 rx fx r fs w (by simpa using hw)) (zB (.bl _) H I rfl ?_);rw [show its.toArray.any (eqU x)=its.any (eqU x) by simp,dO r fs];exact q
 ·obtain ⟨its,r,pl,hz⟩:=I.tuple hq;refine SeqAt.notIn_tupleAt (eqU x) pl (fun w hw=>d6 rx fx r fs w (by simpa using hw)) (zB (.bl _) H I rfl ?_);rw [show its.toArray.any (eqU x)=its.any (eqU x) by simp,dO r fs];exact q
theorem au:c4 X (.builtin "len") (fun xs H Q=>∃p ys,xs=[.ref p]/\(SqL X.K H p ys\/SqT X.K H p ys)/\Q (.int ys.length) H):=by
 intro pins s σ H xs us Q I r h;obtain ⟨p,ys,rfl,hq,q⟩:=h;obtain ⟨u,rfl,rx⟩:=cW r
 cases rx
 have hn:=ey;rcases hq with hq | hq
 ·obtain ⟨its,r',pl,hz⟩:=I.list hq;have hlen:=r'.length;exact Calls.call_len_list pl.isList (by simp only [List.size_toArray]<;>omega) (zB (.int ys.length) H (I.tok _) ⟨s.toks+1,by rw [cH,hlen]⟩ q)
 ·obtain ⟨its,r',pl,hz⟩:=I.tuple hq;have hlen:=r'.length;exact len_tuple pl (by simp only [List.size_toArray]<;>omega) (zB (.int ys.length) H (I.tok _) ⟨s.toks+1,by rw [cH,hlen]⟩ q)
theorem gK:c4 X (.builtin "len") (fun xs H Q=>∃z,xs=[.str z]/\z.length<=sizeLine/\Q (.int z.length) H):=by intro pins s σ H xs us Q I r h;obtain ⟨z,rfl,hz,q⟩:=h;obtain ⟨u,rfl,t,rfl⟩:=cW r;have hn:=ey;exact len_str Jn (zB (.int z.length) H (I.tok _) ⟨_,rfl⟩ q)
theorem bD:c4 X (.type "list") (fun xs H Q=>∃p ys,xs=[.ref p]/\(SqL X.K H p ys\/SqT X.K H p ys)/\∀l,H l=none->Q (.ref l) (upd H l (.lst ys))):=by
 intro pins s σ H xs us Q I r h;obtain ⟨p,ys,rfl,hq,q⟩:=h;obtain ⟨u,rfl,rx⟩:=cW r
 cases rx
 have fin:∀(its:List Value),Vals ys its->ys.length<=sizeLine->∀(h':Heap)(c':Nat),(∀b o',s.heap.get? b=some o'->h'.get? b=some o')->
   h'.get? s.heap.objs.size=some {cls:=.type "list",dict:=none,data:=.seq its.toArray c',slots:=#[]}->EP X pins σ Q (.ref s.heap.objs.size) {s with heap:=h'}:=fun its r' hz h' c' kp e=>
  (zB (.ref s.heap.objs.size) _ (I.laid (t':=s.toks) kp (zq5 _) (show ObjOk X.prog X.w _ h' _ (.lst ys) from ⟨hz,zE its c' r' e⟩)) rfl (q _ (I.hok.fresh (zq5 _))))
 rcases hq with hq | hq
 ·obtain ⟨its,r',pl,hz⟩:=I.list hq;have hlen:=r'.length;obtain ⟨o,ho,hc,n,hd⟩:=pl.isList;exact call_list_seq p (.inl rfl) ho hc hd (fun h' c' kp e=>fin its r' hz h' c' kp e) (by simp only [List.size_toArray]<;>omega)
 ·obtain ⟨its,r',pl,hz⟩:=I.tuple hq;have hlen:=r'.length;obtain ⟨o,ho,hc,n,hd⟩:=pl;exact call_list_seq p (.inr rfl) ho hc hd (fun h' c' kp e=>fin its r' hz h' c' kp e) (by simp only [List.size_toArray]<;>omega)
def tyV(K:W.Frag)(T:String)(x:V)(H:Hp):Prop:=match x with
 | .str _=>T="str"
 | .int _=>T="int"
 | .ref p=>(T="list"/\∃xs,SqL K H p xs)\/(T="tuple"/\∃o,K.lookup p=some o/\o.cls=.type "tuple"/\o.dict=none)\/
   (T="dict"/\((∃kvs,H p=some (.dK kvs))\/∃kvs,H p=some (.dT kvs)))\/(T="set"/\∃S n,H p=some (.set S n))
 |_=>False
theorem pK{pins:List (Addr×Obj)}{σ:St}{H:Hp}{s:Shared}{T:String}{x:V}{v:Value}(I:Inv X pins σ H s)(r:RelV x v)(ty:tyV X.K T x H):
  s.TypeIs v T/\∀a,v=.ref a->∃ob,s.heap.get? a=some ob/\ob.dict=none:=by
 cases x with
 |str z=>
  obtain ⟨t,rfl⟩:=r
  cases (show T="str" from ty)
  exact ⟨typeIs_str s z t,fun _ e=>nomatch e⟩
 |int i=>
  obtain ⟨t,rfl⟩:=r
  cases (show T="int" from ty)
  exact ⟨typeIs_int s i t,fun _ e=>nomatch e⟩
 |ref p=>
  cases r
  rcases ty with ⟨rfl,xs,hq⟩ | ⟨rfl,o,hk,hc,hd⟩ | ⟨rfl,hk⟩ | ⟨rfl,S,n,hk⟩
  ·obtain ⟨its,_,pl,_⟩:=I.list hq;refine ⟨pl.isList.typeIs,fun a e=>?_⟩
   cases e
   obtain ⟨o,n,e,c,hd,_⟩:=pl;exact zA o e hd
  ·refine ⟨zA o (I.kIn p o hk) hc,fun a e=>?_⟩
   cases e
   exact zA o (I.kIn _ o hk) hd
  ·have z:∃o,s.heap.get? p=some o/\o.ExactDict:=by
    rcases hk with ⟨kvs,hk⟩ | ⟨kvs,hk⟩
    ·obtain ⟨_,_,_,_,o,_,_,e,ex,_⟩:=I.hok p _ hk;exact zA o e ex
    ·obtain ⟨_,_,_,_,o,_,_,e,ex,_⟩:=I.hok p _ hk;exact zA o e ex
   obtain ⟨o,e,ex⟩:=z;refine ⟨zA o e ex.1,fun a e2=>?_⟩
   cases e2
   exact zA o e ex.2.1
  ·obtain ⟨o,_,_,_,e,ex,_⟩:=I.hok p _ hk;refine ⟨zA o e ex.1,fun a e2=>?_⟩
   cases e2
   exact zA o e ex.2.1
 |_=>exact False.elim ty
def xu(K:W.Frag)(T:String)(r:V->List V->Hp->VK->Prop)(to:TE):TE:=fun σ H Q=>to σ H fun x H1=>tyV K T x H1/\r x [] H1 Q
def tBM(K:W.Frag)(T:String)(r:V->List V->Hp->VK->Prop)(to:TE)(t:TA):TE:=fun σ H Q=>to σ H fun x H1=>tyV K T x H1/\t σ H1 fun xs H2=>r x xs H2 Q
variable {o e:Expr} {es:List Expr} {to:TE} {t:TA} {name:Str} {apos cpos:Pos} {T id:String} {r:V->List V->Hp->VK->Prop}
theorem wB(pa:PlainAttrs T)(slot:Slot T name id)(hty:typeOf (.builtin id)=pure (.type "method_descriptor")) (hm:MtR X id r) (ho:PE X o to) (ha:PA X (e::es) t)
  (hbase:attributeBase o name X.env (eval o X.env)=eval o X.env:=by rfl)
  (hfew:((backTo cpos (starEach (e::es) X.env)).all (fun x=>!x.1)&&(backToKw cpos (keywordEach [] X.env)).all (fun x=>x.1.isSome)
   && decide ((e::es).length+([]:List Keyword).length+(if ([]:List Keyword).isEmpty then 0 else 1)<30))=true:=by rfl)
  (hline:(apos.endLine==cpos.line)=true:=by rfl) (hs:starEach (e::es) X.env=(false,eval e X.env)::starEach es X.env:=by rfl) (hplain:(backTo cpos (starEach es X.env)).any (·.1)=false:=by rfl) :
  PE X (.Call (.Attribute o name apos) (e::es) [] cpos) (tBM X.K T r to t):=by
 intro pins s σ H Q I h;refine wpAny_Call_method_late hbase hfew hline rfl (thn (ho pins s σ H _ I h) fun v s1 hhx=>?_);obtain ⟨x,H1,I1,r1,ty,q1⟩:=hhx;obtain ⟨h1,h2⟩:=pK I1 r1 ty;refine zZ T id pa slot hty h1 h2 ?_;have hA:=ha cpos pins s1 σ H1 _ I1 q1;rw [hs] at hA ⊢;refine Calls.callWith_builtin (by show (false || (backTo cpos (starEach es X.env)).any (·.1))=false;rw [hplain]<;>rfl) (Calls.evalArgs_plain ?_);exact thn hA fun us s2 ⟨vs,H2,I2,r2,q2⟩=>hm pins s2 σ H2 x vs v us Q I2 r1 r2 q2
/- xs.append(e),list.index on a module's tuple .. are MtR facts of 06m -/
end
end L2
namespace L2
def MtM(X:Cx)(id:String)(r:V->List V->Hp->VK->Prop):Prop:=
 ∀(pins:List (Addr×Obj)) (s:Shared) (σ:St) (H:Hp) (x:V) (xs:List V) (v:Value) (us:List Value) (Q:VK),Inv X pins σ H s->RelV x v->Vals xs us->r x xs H Q->
  wpAny (model X.prog X.w) X.A (call (.builtin id) (v::us)) (EP X pins σ Q) X.xe s
theorem Vals.one:∀{x:V} {us:List Value},Vals [x] us->∃u,us=[u]/\RelV x u
 |_,_,.cons r .nil=>zA _ rfl r
theorem Vals.zero:∀{us:List Value},Vals [] us->us=[]
 |_,.nil=>rfl
theorem Vals.dropLast{xs:List V}{us:List Value}(h:Vals xs us):Vals xs.dropLast us.dropLast:=by
 induction h with
 |nil=>exact .nil
 |cons r t ih=>
  cases t with
  |nil=>exact .nil
  |cons q t'=>exact .cons r ih
theorem jv{α:Type}(l:List α):l.eraseIdx (l.length-1)=l.dropLast:=by
 induction l with
 |nil=>rfl
 |cons a r ih=>
  cases r with
  |nil=>rfl
  |cons b r=>
   have e:(a::b::r).length-1=((b::r).length-1)+1:=by have h1:(a::b::r).length=r.length+2:=rfl;have h2:(b::r).length=r.length+1:=rfl;omega
   rw [e,List.eraseIdx_cons_succ,ih]
   all_goals rfl
section
variable {X:Cx} {pins:List (Addr×Obj)} {σ:St} {H:Hp} {s:Shared} {l b:Addr} {xs ys zs:List V}
theorem Inv.lset{its its':List Value}{n:Nat}{f:Array Value->Array Value}{t':Nat}(I:Inv X pins σ H s)(hH:H l=some (.lst xs))
  (e:s.heap.get? l=some {cls:=.type "list",data:=.seq its.toArray n}) (hf:f its.toArray=its'.toArray) (hv:Vals ys its') (hz:ys.length<=sizeLine) :
  Inv X pins σ (upd H l (.lst ys)) {s with heap:=s.heap.update l (Obj.mapSeq f),toks:=t'}:=by
 have q:=PySem.IsL.update e f;rw [hf] at q;refine I.write (x:=l) (e:=l) (by rw [hH];exact trivial) (.inl rfl) (fun b' u hb hu=>(Heap.get?_update_other s.heap (Obj.mapSeq f) (Ne.symm hb)).trans hu) ⟨_,q⟩ ?_;exact ⟨hz,zE its' _ hv q⟩
theorem Inv.lnew{its:List Value}{t':Nat}(I:Inv X pins σ H s)(hv:Vals ys its)(hz:ys.length<=sizeLine):
  Inv X pins σ (upd H s.heap.objs.size (.lst ys)) {s with heap:=s.heap.push {cls:=.type "list",data:=.seq its.toArray},toks:=t'}:=
 I.laid (fun _ _ q=>cw _ q) (zq5 _) ⟨hz,zE its 0 hv (dM _ rfl)⟩
theorem Inv.fresh(I:Inv X pins σ H s):H s.heap.objs.size=none:=I.hok.fresh (zq5 _)
theorem Inv.lstM(I:Inv X pins σ H s)(hH:H l=some (.lst xs)):xs.length<=sizeLine/\∃(its:List Value)(n:Nat),Vals xs its/\xs.length=its.length/\s.heap.get? l=some {cls:=.type "list",data:=.seq its.toArray n}:=by obtain ⟨z,its,n,r,e⟩:=I.hok l _ hH;exact ⟨z,zB its n r r.length e⟩
theorem nX{n:Nat}(h:n<=sizeLine):Builtin.List.listTooLong n=false:=by unfold Builtin.List.listTooLong;exact decide_eq_false Jn
end
section
variable {X:Cx}
def kU:V->List V->Hp->VK->Prop:=fun x vs H Q=>∃l xs y,x=.ref l/\vs=[y]/\H l=some (.lst xs)/\xs.length<sizeLine/\Q .non (upd H l (.lst (xs++[y])))
theorem b4:MtM X "list.append" kU:=by
 intro pins s σ H x vs v us Q I rx rv h;obtain ⟨l,xs,y,rfl,rfl,hH,hz,q⟩:=h
 cases rx
 obtain ⟨u,rfl,ru⟩:=rv.one;obtain ⟨z,its,n,r,hl,e⟩:=I.lstM hH;refine call_meets F.slot_list_append (zA _ e rfl) F.entry_list_append (F.args_list_append_2 _ _) (PySem.list_append l its.toArray n u (by rw [cH];omega)) ⟨e,?_⟩;refine zB .non _ (I.lset (its':=its++[u]) hH e Jo (r.append (.cons ru .nil)) ?_) rfl q;rw [zq8,fP];omega
def kW:V->List V->Hp->VK->Prop:=fun x vs H Q=>∃l b xs zs,x=.ref l/\vs=[.ref b]/\H l=some (.lst xs)/\H b=some (.lst zs)/\xs.length+zs.length<=sizeLine/\Q .non (upd H l (.lst (xs++zs)))
theorem eB:MtM X "list.extend" kW:=by
 intro pins s σ H x vs v us Q I rx rv h;obtain ⟨l,b,xs,zs,rfl,rfl,hH,hB,hz,q⟩:=h
 cases rx
 obtain ⟨u,rfl,ru⟩:=rv.one
 cases ru
 obtain ⟨z,its,n,r,hl,e⟩:=I.lstM hH;obtain ⟨z2,its2,n2,r2,hl2,e2⟩:=I.lstM hB;have hsz:its.toArray.size+its2.toArray.size<=sizeLine:=by rw [cH,cH];omega
 have hlong:¬(!its.toArray.isEmpty&&Builtin.List.listTooLong (its.toArray.size+its2.toArray.size))=true:=by rw [nX hsz,vN];exact zq3
 refine call_meets F.slot_list_extend (zA _ e rfl) F.entry_list_extend (F.args_list_extend_2 _ _)
  (AutoSeq1.list_extend_list_list_0 l its.toArray n b its2.toArray n2 hlong (by rw [cH];omega) Jn) (zC e e2 ?_)
 refine zB .non _ (I.lset (its':=its++its2) hH e Jo (r.append r2) ?_) rfl q;rw [zq8];omega
def wH:V->List V->Hp->VK->Prop:=fun x vs H Q=>∃l xs y,x=.ref l/\vs=[]/\H l=some (.lst xs)/\xs[xs.length-1]?=some y/\Q y (upd H l (.lst xs.dropLast))
theorem nN:MtM X "list.pop" wH:=by
 intro pins s σ H x vs v us Q I rx rv h;obtain ⟨l,xs,y,rfl,rfl,hH,hy,q⟩:=h
 cases rx
 have hus:=rv.zero;subst hus;obtain ⟨z,its,n,r,hl,e⟩:=I.lstM hH;obtain ⟨u,hu,ru⟩:=r.get hy;have hy':its.toArray[its.toArray.size-1]?=some u:=by show its.toArray[its.length-1]?=some u;rw [<- xN,<- hl];exact hu
 refine call_meets F.slot_list_pop (zA _ e rfl) F.entry_list_pop (F.args_list_pop_1 _) (MeetsSeq.list_pop_last l its.toArray n u hy' (by rw [cH];omega)) ⟨e,?_⟩;refine zB y _ (I.lset (its':=its.dropLast) hH e ?_ r.dropLast ?_) ru q
 ·show its.toArray.eraseIdxIfInBounds (its.toArray.size-1)=its.dropLast.toArray;rw [cH,List.eraseIdxIfInBounds_toArray,jv]
 ·rw [List.length_dropLast];omega
def ut:V->List V->Hp->VK->Prop:=fun x vs H Q=>∃l xs,x=.ref l/\vs=[]/\H l=some (.lst xs)/\Q .non (upd H l (.lst []))
theorem iJ:MtM X "list.clear" ut:=by
 intro pins s σ H x vs v us Q I rx rv h;obtain ⟨l,xs,rfl,rfl,hH,q⟩:=h
 cases rx
 have hus:=rv.zero;subst hus;obtain ⟨z,its,n,r,hl,e⟩:=I.lstM hH;refine call_meets F.slot_list_clear (zA _ e rfl) F.entry_list_clear (F.args_list_clear_1 _) (AutoSeq1.list_clear_list_0 l its.toArray n (by rw [cH];omega)) ⟨e,?_⟩;exact zB .non _ (I.lset (its':=[]) (ys:=[]) hH e rfl .nil (ek _)) rfl q
def ur:R2:=fun x y H Q=>∃l b xs zs,x=.ref l/\y=.ref b/\H l=some (.lst xs)/\H b=some (.lst zs)/\xs.length+zs.length<=sizeLine/\∀p,H p=none->Q (.ref p) (upd H p (.lst (xs++zs)))
theorem br:OpR X (binaryOp .Add) ur:=by
 intro pins s σ H x y v u Q I rx ry h;obtain ⟨l,b,xs,zs,rfl,rfl,hH,hB,hz,q⟩:=h
 cases rx
 cases ry
 obtain ⟨z,its,n,r,hl,e⟩:=I.lstM hH;obtain ⟨z2,its2,n2,r2,hl2,e2⟩:=I.lstM hB;refine PySem.P.add_list e e2 ?_ (by rw [cH,cH];omega);have ea:its.toArray++its2.toArray=(its++its2).toArray:=by simp
 rw [ea];exact zB (.ref _) _ (I.lnew (t':=s.toks) (r.append r2) (by rw [zq8];omega)) rfl (q _ I.fresh)
end
section
variable {prog:Program} {w:World} {A:Around} {E:Value->Shared->Prop} {s:Shared}
end
section
variable {X:Cx}
end
end L2
namespace L2
section
variable {κ:Type} [DecidableEq κ]
end
theorem wt{P:Program}{w:World}{k:Key}{u:Value}(r:RelV (kV k) u):(bS P w).is k u=true:=by
 cases k with
 |inl i=>obtain ⟨t,e⟩:=(show ∃t,u=Value.int i t from r);subst e;exact iH P w i t
 |inr x=>obtain ⟨t,e⟩:=(show ∃t,u=Value.str x t from r);subst e;exact iI P w x t
theorem gh{P:Program}{w:World}:∀{ks:List Key} {us:List Value},Vals (ks.map kV) us->ItemsAre (bS P w) ks us
 | [],_,r=>by rw [vO] at r;cases r;exact .nil
 |k::ks,_,r=>by
  rw [cG] at r
  cases r with
  |cons h t=>exact .cons (wt h) (gh t)
abbrev KT (H:Hp):List (List Key×V)->List (List Key×Addr×Value)->Prop:=Paired fun p q=>p.1=q.1/\H q.2.1=some (.tup (p.1.map kV))/\RelV p.2 q.2.2
section
variable {P:Program} {w:World} {H:Hp} {h:Heap} {a:Addr}
theorem rO{u:HO}(ok:HOk P w H h)(e:Rd H a u):ObjOk P w H h a u:=e.ok ok
theorem wc{kvs:List (Key×V)}(ok:HOk P w H h)(e:Rd H a (.dK kvs)):kvs.length<=sizeLine/\(a==sysModules)=false/\∃vs,KV kvs vs/\h.DictOf (bS P w) a vs:=
 show ObjOk P w H h a (.dK kvs) from rO ok e
theorem tY{ks:List Key}(ok:HOk P w H h)(e:H a=some (.tup (ks.map kV))):(tupleKind (bS P w)).is h ks a:=by
 obtain ⟨_,its,r,o,h1,h2,n,h3⟩:=(show ObjOk P w H h a (.tup (ks.map kV)) from ok a _ e)
 exact zK o its.toArray n h1 h2 h3 (by simpa using gh r)
theorem we{kvs:List (List Key×V)}(ok:HOk P w H h)(e:Rd H a (.dT kvs)):kvs.length<=sizeLine/\(a==sysModules)=false/\
  ∃xs,KT H kvs xs/\h.DictOfH (tupleKind (bS P w)) a xs:=by
 obtain ⟨z,y,xs,r,o,es,ep,h1,h2,h3,h4,h5⟩:=(show ObjOk P w H h a (.dT kvs) from rO ok e)
 refine zC z y (zA xs r (zM o es ep h1 h2 h3 h4 (fun x hx=>?_) h5));have all:∀{l:List (List Key×V)} {m:List (List Key×Addr×Value)},KT H l m->∀x∈m,(tupleKind (bS P w)).is h x.1 x.2.1:=by
  intro l m q
  induction q with
  |nil=>intro x hx;exact nomatch hx
  | @cons p q ps qs hq t ih=>
   intro x hx;rcases zq1.mp hx with e | hx
   ·subst e;exact tY ok (by rw [<- hq.1];exact hq.2.1)
   ·exact ih x hx
 exact all r x hx
end
section
variable {X:Cx} {pins:List (Addr×Obj)} {σ:St} {H:Hp} {s:Shared} {a:Addr} {y v:V} {u r:Value} {o:Option V} {A:Around} {E:Value->Shared->Prop}
end
section
variable {X:Cx} {pins:List (Addr×Obj)} {σ:St} {H:Hp} {s:Shared} {a:Addr} {kvs:List (Key×V)} {k:Key} {u:Value} {A:Around} {E:Value->Shared->Prop}
end
section
variable {X:Cx} {o i e value:Expr} {pos pos' tpos:Pos} {td ty tv:TE}
end
section
variable {X:Cx} {pos:Pos}
end
def IsD(H:Hp)(a:Addr):Prop:=(∃kvs,Rd H a (.dK kvs))\/∃kvs,Rd H a (.dT kvs)
theorem tR{X:Cx}{pins:List (Addr×Obj)}{σ:St}{H:Hp}{s:Shared}{a:Addr}(I:Inv X pins σ H s)(d:IsD H a):
  s.TypeIs (.ref a) "dict"/\(∀b,Value.ref a=.ref b->∃ob,s.heap.get? b=some ob/\ob.dict=none)/\(a==sysModules)=false:=by
 rcases d with ⟨kvs,e⟩ | ⟨kvs,e⟩
 ·obtain ⟨_,hd,vs,_,dd⟩:=wc I.hok e;refine zC dd.typeIs (fun b q=>?_) hd
  cases q
  obtain ⟨ob,_,_,h1,h2,_⟩:=dd;exact zA ob h1 h2.2.1
 ·obtain ⟨_,hd,xs,_,dd⟩:=we I.hok e;refine zC dd.typeIs (fun b q=>?_) hd
  cases q
  obtain ⟨ob,_,_,h1,h2,_⟩:=dd;exact zA ob h1 h2.2.1
section
variable {X:Cx} {pins:List (Addr×Obj)} {σ:St} {H:Hp} {s:Shared} {a:Addr} {y d:V} {u r:Value} {o:Option V} {A:Around} {E:Value->Shared->Prop}
end
section
variable {X:Cx} {o e f:Expr} {apos cpos:Pos} {td ty tx:TE}
end
section
variable {X:Cx} {pins:List (Addr×Obj)} {σ:St} {H:Hp} {s:Shared} {a:Addr} {kvs:List (Key×V)} {A:Around} {E:Value->Shared->Prop}
end
section
variable {X:Cx} {pins:List (Addr×Obj)} {σ:St} {H:Hp} {s:Shared} {a:Addr} {y:V} {u:Value} {A:Around} {E:Value->Shared->Prop}
end
end L2
end
namespace Att
open PySem PySem.W PySem.Calls PyProof.Rows
theorem eY{P:Params}{h:Heap}:∀(ns:List Int)(vs:List Value),WellAll P h vs (ns.map WData.int)->IntsAre vs ns:=by
 intro ns
 induction ns with
 |nil=>
  intro vs w;rw [vO] at w
  cases w
  exact .nil
 |cons n ns ih=>
  intro vs w;rw [cG] at w
  cases w with
  |cons a b=>
   cases a
   exact .cons _ _ (ih _ b)
theorem mw{l:OpenLaw}{n:Nat}(hn:l.most=some n){P:Params}{h:Heap}{args:List WData}{vals:List Value}
  (hpre:l.row.toRowW.claim.pre args=true) (hwl:WellAll P h vals args) :
  ∃a vs ns,vals=[Value.ref a]/\args=[WData.list (ns.map WData.int)]/\h.get? a=some {cls:=.type "list",data:=.seq vs.toArray}/\IntsAre vs ns/\ns.length<=n:=by
 have hsh:WShape.hasAll [] args [.list .int]=true:=(pre_splitW hpre).1;have hc:l.pre.holds [] {args:=args}=true:=(pre_splitW hpre).2;obtain ⟨d,r,rfl,h1,h2⟩:=hasAllW_cons hsh;obtain rfl:=hasAllW_nil h2;obtain ⟨xs,rfl,h3⟩:=hasW_list h1;obtain ⟨ns,rfl⟩:=items_int h3;have hlen:ns.length<=n:=by
  unfold OpenLaw.pre at hc;have h4:(WTm.not (.lt (.lit (.int (n:Int))) (.len (.arg 0)))).holds [] {args:=[.list (ns.map .int)]}=true:=by have h4:=(holds_andW hc).1;rw [hn] at h4;exact h4
  have h5:=condW_of h4 (w_not (w_lt w_lit (w_len_list (w_arg rfl))));rw [zq0] at h5;refine Nat.le_of_not_lt fun q=>?_;have q':(n:Int)<((ns.length:Nat):Int):=by omega
  first
   | (rw [decide_eq_true q'] at h5;exact absurd h5 Jm)
   | (simp at h5;omega)
 cases hwl with
 |cons w1 w2=>
  cases w2
  cases w1 with
  |list ho hall=>exact zQ _ _ ns rfl rfl ho (eY ns _ hall) hlen
theorem mj(l:OpenLaw)(args:List WData):l.row.toRowW.claim.post args (.bool true) args=true:=
 postW_of (r:=l.row.toRowW) (X:=(true==true))
  (show WShape.has [] (.bool true) .bool=true by first | rfl | decide | simp [WShape.has,WShape.arms,WShape.armsAll])
  (show (WTm.eq .res (.lit (.bool true))).value [] {args:=args,res:=some (.bool true),after:=args}=some (.bool (true==true)) from w_eq_bool (w_res rfl) w_lit) rfl
section
variable {prog:Program} {w:World} {A:Around} {E:Value->Shared->Prop} {s:Shared} {K:Frag}
end
end Att
namespace L2
open PySem PySem.Spec PyProof.Rows
theorem gC:∀{vs:List Value} {ns:List Int},IntsAre vs ns->Vals (ns.map V.int) vs
 |_,_,.nil=>.nil
 |_,_,.cons n t h=>.cons ⟨t,rfl⟩ (gC h)
def tI(H:Hp):Prop:=∀b,H b=none\/∃o xs,H b=some (.frz o (.lst xs))
theorem nJ{P:Program}{w:World}{K:W.Frag}{mg mb:Str->Option Value}{CX:CXT}{k:Nat}{fa a:Addr}{fd:FuncData}{x:Str}{sp:Sp}{s₁:Shared}{vs:List Value}{ns:List Int}
  (KX:K.In s₁.heap) (hns:s₁.heap.Ns mainGlobals mg) (hb:s₁.heap.Ns builtinsNs mb) (hbb:∀x:Str,x≠"__name__"->mb x=bootBuiltins x) (hlim:s₁.heap.NoLimit) (hg:s₁.gens=#[])
  (ha:s₁.heap.get? a=some {cls:=.type "list",data:=.seq vs.toArray}) (hi:IntsAre vs ns) (hl:ns.length<=sizeLine) (hr:Room k callerA)
  (F:∀base:Heap,K.In base->base.Ns mainGlobals mg->FnOk P w K mg base CX k fa fd [x] sp) (hbind:∀(s:Shared)(u:Value),BindsTo s fd ⟨[u],[]⟩ [(x,u)])
  (hsp:∀H:Hp,tI H->SqL K H a (ns.map V.int)->sp [.ref a] H (fun v _=>v=.bl true) fun _ _ _=>False)
  (hCX:∀H e s',CX [] H s₁ (fun _ _ _=>False) e s'->False) :
  codeAny (model P w) callerA (.call (.ref fa) ⟨[.ref a],[]⟩) (fun r s'=>r=.ok (.ret (.bool true))/\OldK s₁.heap s'.heap/\s'.os=s₁.os/\AllBare s'.gens) s₁:=by
 have rv:=gC hi;have lenV:=hi.length;have core:∀H:Hp,tI H->SqL K H a (ns.map V.int)->HOk P w H s₁.heap->(∀b,H b≠none->b=a)->(H a≠none->K.lookup a=none)->
   codeAny (model P w) callerA (.call (.ref fa) ⟨[.ref a],[]⟩) (fun r s'=>r=.ok (.ret (.bool true))/\OldK s₁.heap s'.heap/\s'.os=s₁.os/\AllBare s'.gens) s₁:=by
  intro H hO hS hok hA hK;have base_of:∀{b:Addr} {o:Obj},s₁.heap.get? b=some o->H b=none->(gP s₁.heap H).get? b=some o:=fun e n=>nv e n;have noA:∀{b:Addr} {o:Obj} {es:Array DictEntry} {ep:Nat},s₁.heap.get? b=some o->o.data=.dict es ep->H b=none:=fun {b o es ep} e d=>by
   cases q:H b with
   |none=>rfl
   |some u=>
    have e':b=a:=hA b (by rw [q];simp);subst e';rw [ha] at e;cases e;have d':Data.seq vs.toArray _=Data.dict es ep:=d
    cases d'
  have nsK:∀{b:Addr} {m:Str->Option Value},s₁.heap.Ns b m->(gP s₁.heap H).Ns b m:=fun {b m} ⟨o,es,ep,e,d,r⟩=>zU o es ep (base_of e (noA e d)) d r
  have hKb:K.In (gP s₁.heap H):=fun b o e=>base_of (KX b o e) (by
   cases q:H b with
   |none=>rfl
   |some u=>have e':b=a:=hA b (by rw [q];simp);subst e';rw [hK (by rw [q];simp)] at e;cases e)
  have hM:Mod K mg (gP s₁.heap H):=⟨hKb,nsK hns,zA mb (nsK hb) hbb,let ⟨mc,h1,h2⟩:=hlim;(zA mc (nsK h1) h2)⟩
  have e0:Env0 P w K mg (gP s₁.heap H) callerA [] s₁ H:=⟨rfl,hM,fun b o e=>qt e,vK (lX _ _),trivial,fun b hb=>absurd (show b∈([]:List Addr) from hb) Jo,hok,.of_eq hg⟩
  refine codeAny_mono ((F _ hKb (nsK hns)).run callerA [] s₁ H ⟨[.ref a],[]⟩ [.ref a] [.ref a] _ _ hr e0 (hbind s₁ (.ref a)) (.cons rfl .nil) (hsp H hO hS)) fun r s' h=>?_
  cases r with
  |error e=>exact (hCX H e s' h).elim
  |ok fl=>
   cases fl with
   |next=>exact False.elim h
   |brk=>exact False.elim h
   |cont=>exact False.elim h
   |ret u=>
    obtain ⟨v,H',os,bare,un,hok',r',q⟩:=h;have q':v=.bl true:=q;subst q';obtain rfl:u=Value.bool true:=r';refine zH rfl (OldK.of_keep fun b o e=>?_) os bare
    cases q:H b with
    |none=>exact un.keep b o e q (by intro z;exact absurd (show b∈([]:List Addr) from z) Jo) Jo
    |some u=>
     rcases hO b with z | ⟨ob,xs,z⟩
     ·rw [q] at z;cases z
     ·have z2:=un.frzs b ob _ z;obtain ⟨e1,_⟩:=hok b _ z;obtain ⟨e2,_⟩:=hok' b _ z2;rw [e] at e1;cases e1;exact e2
 cases hk:K.lookup a with
 |some o=>
  have e:=KX a o hk;rw [ha] at e
  cases e
  refine core (fun _=>none) (fun _=>.inl rfl) (.inr (zM _ vs.toArray _ hk rfl rfl rfl (by rw [cH,lenV];exact hl) (by simpa using rv))) (fun b u z=>by have z':(none:Option HO)=some u:=z;cases z') (fun b z=>absurd rfl z) fun z=>absurd rfl z
 |none=>
  refine core (fun b=>if b=a then some (.frz {cls:=.type "list",data:=.seq vs.toArray} (.lst (ns.map V.int))) else none) (fun b=>?_) (.inl (.inr ⟨{cls:=.type "list",data:=.seq vs.toArray},if_pos rfl⟩)) (fun b u z=>?_) (fun b z=>?_) fun _=>hk
  ·by_cases hb:b=a
   ·exact .inr (zN _ _ (if_pos hb))
   ·exact .inl (if_neg hb)
  ·by_cases hb:b=a
   ·have z':=(if_pos hb).symm.trans z
    cases z'
    subst hb;exact zC ha (by rw [zq0];exact hl) (zE vs _ rv ha)
   ·have z':=(if_neg hb).symm.trans z
    cases z'
  ·by_cases hb:b=a
   ·exact hb
   ·exact absurd (if_neg hb) z
end L2
namespace L2
open PySem PySem.Spec PyProof.Rows
end L2
/- THE LAST THEOREM (shape;LID,My.* are yours):
   My.Adr: a structure of the addresses that your layer names (classes,functions);My.Txt K t: a structure (Prop) of the equations over K;
   My.txt_mk:{K} {implicit addresses ..} (e1:nsIn K mainGlobals "law"=some (some (.ref f))) (e2:K.lookup f=some ⟨oc,od,.func (fnOf "law" "law" params body scope dV kV doc pm an cdv ct),sl⟩) (e3:codeIn K cdv "law"=true) ..:∃t,My.Txt K t
set_option maxRecDepth 100000 in
set_option maxHeartbeats 0 in
theorem PySem.Challenge.cw_LID_holds:PySem.Challenge.rw_LID.Holds:=by
 w_on;o_law;k_head;(case hw=>w_witness2)
 k_fill
 refine L2.walk_of (l:=PySem.Challenge.rw_LID) (n:=63) (k:=40) (x:="script") (CX:=fun w=>..) (sp:=fun _=>My.sp_law) rfl Jm rfl ⟨rfl,Jm,Jm⟩ (fun w h Y=>W.kIn_of Y) ?F ?S ?C
 case F=>
  intro w mg fa h KX G hmg;have T:∃t,My.Txt (L2.KOf KX) t:=by
   dsimp only [L2.KOf]                          -- K must stand as «<heap const> w.params» for k_is;refine' My.txt_mk ?e1 ?e2 ?e3 ..
   (case e1=>W.k_is)                    -- in the order: a name->its address->its object->its parts
   (case e2=>W.k_is)
   ..
  obtain ⟨t,T⟩:=T;have e0:=hmg.symm.trans (W.mg_of KX G T.law)
  cases e0                                       -- fa is the law's own address
  exact ⟨_,fun s u=>.of_eq rfl,fun base kb nb=>My.law_fn T kb nb⟩     -- if «.of_eq rfl» comes too early: refine' ⟨_,?b,fun base kb nb=>My.law_fn T kb nb⟩;exact fun s u=>.of_eq rfl
 case S=>exact fun w H a ns hl hO hS=>..
 case C=>exact ..
(the tactic k_is has no namespace: write k_is) -/
section
open PySem PySem.Spec PyProof.Rows
namespace L2
variable {H:Hp} {f:Addr} {qual x:Str}
def bE(s:Stmt)(j:Nat):Stmt:=match s with
 | .ClassDef _ _ _ body _ _ _ _ _ _ _=>body.getD j (.Pass ⟨0,0,0,0⟩)
 |_=>.Pass ⟨0,0,0,0⟩
def ce(s:Stmt):Arguments:=match s with
 | .FunctionDef _ a _ _ _ _ _ _ _ _=>a
 |_=>{posonlyargs:=[],args:=[],vararg:=none,kwonlyargs:=[],kw_defaults:=[],kwarg:=none,defaults:=[]}
def bY(s:Stmt):List Stmt:=match s with
 | .FunctionDef _ _ b _ _ _ _ _ _ _=>b
 |_=>[]
def ax(s:Stmt):Scope:=match s with
 | .FunctionDef _ _ _ _ _ _ sc _ _ _=>sc
 |_=>{kind:=.function,names:=[],isGenerator:=false,isCoroutine:=false}
abbrev CX0:CXT:=fun _ _ _ _ _ _=>False
abbrev E0:XK:=fun _ _ _=>False
theorem kQ{X:Cx}:cX CX0 X E0:=fun _ _ _ _ _ _ _ h=>h.elim
structure Fun(K:W.Frag)(x qual:Str)(st:Stmt)(f:Addr)(fd:FuncData):Prop where
 ex:∃(oc:Value)(od:Option Addr)(kV doc pm:Value)(an:Option Addr)(cdv ct:Value)(osl:Array (Option Value)),
  fd=W.fnOf x qual (ce st) (bY st) (ax st) .none kV doc pm an cdv ct/\K.lookup f=some ⟨oc,od,.func fd,osl⟩/\W.codeIn K cdv qual=true
 kp:W.keepIn K (.ref f)=true
section
variable {P:Program} {w:World} {K:W.Frag} {mg:Str->Option Value} {base:Heap}
theorem Fun.ok{st:Stmt}{fd:FuncData}{N ps:List Str}{k:Nat}{sp:Sp}(F:Fun K x qual st f fd)(S:aG N ps (ax st))(len:∀vs H Q E,sp vs H Q E->vs.length=ps.length)
 (hbody:∀(cdv:Value)(A:Around)(outer:List Env)(s:Shared)(H:Hp)(vs:List V)(Q:VK)(E:XK),Room k (A.deeper (envOfC qual (ax st) s.heap.objs.size f cdv))->sp vs H Q E->
 ∃t,PSs (ju CX0 P w K mg base N qual (ax st) f cdv A outer s H E).nox (bY st) t/\t {nx:=fun _ H'=>Q .non H',rt:=Q} (start N vs) H):FnOk P w K mg base CX0 (k+1) f fd ps sp:=by
 obtain ⟨oc,od,kV,doc,pm,an,cdv,ct,osl,rfl,lk,hcd⟩:=F.ex;refine wf lk hcd S len fun A outer s H vs Q E hr hsp=>?_;obtain ⟨t,h,q⟩:=hbody cdv A outer s H vs Q E hr hsp;exact zA t h.nox q
theorem Fun.binds{st:Stmt}{fd:FuncData}{ps:List Str}(F:Fun K x qual st f fd)
 (h:∀(kV doc pm:Value)(an:Option Addr)(cdv ct:Value)(us:List Value),us.length=ps.length->bindArgs (W.fnOf x qual (ce st) (bY st) (ax st) .none kV doc pm an cdv ct) ⟨us,[]⟩=pure (ps.zip us)):Binds K fd ps []:=by
 obtain ⟨oc,od,kV,doc,pm,an,cdv,ct,osl,rfl,lk,hcd⟩:=F.ex;exact .all (h kV doc pm an cdv ct)
theorem gO{st:Stmt}{oc:Value}{od an:Option Addr}{osl:Array (Option Value)}{kV doc pm cdv ct:Value}(l:K.lookup f=some ⟨oc,od,.func (W.fnOf x qual (ce st) (bY st) (ax st) .none kV doc pm an cdv ct),osl⟩)
 (c:W.codeIn K cdv qual=true) (k:W.keepIn K (.ref f)=true):Fun K x qual st f (W.fnOf x qual (ce st) (bY st) (ax st) .none kV doc pm an cdv ct):=⟨za oc od kV doc pm an cdv ct osl (zC rfl l c),k⟩
end
theorem ny{A:Around}{k:Nat}(hr:Room k A):A.units+1<cLine:=Nat.lt_of_le_of_lt (Nat.add_le_add_left (by decide:1<=64) _) hr.units
section
variable {X:Cx}
end
def Same(H H':Hp):Prop:=∀b o,H b=some o->H' b=some o
theorem Same.refl(H:Hp):Same H H:=fun _ _ h=>h
theorem Same.trans{H1 H2:Hp}(a:Same H H1)(b:Same H1 H2):Same H H2:=fun c o h=>b c o (a c o h)
theorem Same.free{H':Hp}(e:Same H H'){l:Addr}(h:H' l=Option.none):H l=Option.none:=by
 cases q:H l with
 |none=>rfl
 |some o=>
  rw [e l o q] at h
  cases h
theorem Same.seq{K:W.Frag}{H':Hp}{a:Addr}{xs:List V}(e:Same H H')(h:SqL K H a xs):SqL K H' a xs:=by
 rcases h with (h | ⟨o,h⟩) | h
 ·exact .inl (.inl (e _ _ h))
 ·exact .inl (.inr ⟨o,e _ _ h⟩)
 ·exact .inr h
end L2
namespace L2
section
variable {X:Cx}
end
section
variable {κ:Type} [DecidableEq κ]
end
end L2
namespace L2
section
variable {X:Cx}
def CDivB(i j:Int):Prop:=0<j/\j.natAbs.log2<9000
theorem ox:OpR X (binaryOp .FloorDiv) (rI CDivB fun i j=>.int (i / j)):=opI fun i j _ _ _ _ _ hc q=>by have h1:(0:Int)<j:=hc.1;exact floordiv_int Jn (by rw [Int.fdiv_eq_ediv_of_nonneg i Jn];exact q) (.inl (PyProof.noPylong_of_log2 hc.2))
theorem qy:OpR X (binaryOp .Mult) (rI IntMulOk fun i j=>.int (i * j)):=opI fun _ _ _ _ _ _ _ hc q=>mul_int q hc
theorem CDivB.small{i j:Int}(h:0<j)(h2:j<1073741824):CDivB i j:=⟨h,by have h3:j.natAbs.log2<30:=(Nat.log2_lt Jn).mpr Jn;omega⟩
end
theorem aS{c A B:Prop}[Decidable c](h1:c->A)(h2:¬c->B):if decide c=true then A else B:=by
 by_cases h:c
 ·rw [if_pos (decide_eq_true h)];exact h1 h
 ·rw [if_neg (fun q=>h (of_decide_eq_true q))];exact h2 h
structure b7(K:W.Frag)(mg:Str->Option Value)(x:Str)(st:Stmt)(ps:List Str)(f:Addr)(fd:FuncData):Prop where
 F:Fun K x x st f fd
 B:Binds K fd ps []
 M:mg x=some (.ref f)
theorem oB{X:Cx}{k:Nat}{f:Addr}{fd:FuncData}{ps:List Str}{sp:Sp}{x:Str}{st:Stmt}{p pos:Pos}{e:Expr}{es:List Expr}{t:TA}(D:b7 X.K X.mg x st ps f fd)(G:FnOk X.prog X.w X.K X.mg X.base CX0 k f fd ps sp)(hr:Room k X.A)
  (ha:PA X (e::es) t) (hg:Gl X x:=by rfl) (hdb:(x==("__debug__":Str))=false:=by decide) (he:starEach (e::es) X.env=(false,eval e X.env)::starEach es X.env:=by rfl) (hpl:(backTo pos (starEach es X.env)).any (·.1)=false:=by rfl) :
  PE X (.Call (.Name x p) (e::es) [] pos) (jd sp [] E0 t):=qC G hr hg D.M D.F.kp D.B .nil kQ ha hdb he hpl
def Ite(K:W.Frag)(a:Addr):It:=
  ⟨fun i H=>∃xs x,SqL K H a xs/\xs[i]?=some x,
   fun i H x H'=>∃p y,x=.ref p/\H p=none/\H'=upd H p (.tup [.int i,y])/\∀xs,SqL K H a xs->xs[i]?=some y,
   fun i H=>∃xs,SqL K H a xs/\xs.length<=i⟩
theorem mB{P:Program}{w:World}{K:W.Frag}{elts:List Expr}{k0:Nat}{pos0:Pos}(a e it:Addr)(hei:e≠it):
  jo P w K (.Tuple elts k0 pos0) (Ite K a) [e,it] e (fun i h=>(∃old,IsEnum h e it i old)/\h.IsListIter it a i) where
 mem:=by simp
 obj:=fun i h ⟨⟨old,he⟩,hit⟩ b hb=>by
  rcases zq1.mp hb with rfl | hb
  ·exact ⟨_,he,fun v z=>by
    have z':Data.fields _=Data.cell v:=z
    cases z'⟩
  ·have e':b=it:=by simpa using hb
   subst e';obtain ⟨o,q,c,d⟩:=hit;exact zA o q fun v z=>by rw [d] at z;cases z
 keep:=fun i h h' ⟨⟨old,he⟩,hit⟩ k=>⟨⟨old,k e Jo _ he⟩,hit.at fun o q=>k it Jo o q⟩
 item:=by
  intro X hP hw hK hc i pins s σ H E I hf st hg;subst hP hw hK;obtain ⟨xs,x,hq,hx⟩:=hg;obtain ⟨its,rv,p,hz⟩:=I.list hq;obtain ⟨u,hu,ru⟩:=rv.get hx;obtain ⟨⟨old,he⟩,hit⟩:=st;obtain ⟨f0,f1,f2,f3,f4,f5⟩:=hf e Jo;obtain ⟨g0,g1,g2,g3,g4,g5⟩:=hf it Jo;refine wpAny_pyNext_enum_item he hit p.isList (x:=u) (by simpa using hu) hei fun h1 ho hit1 hT hsz hk=>?_;refine zA _ rfl (wpAny_letOwnedTupleGo_enum ho fun h2 he2 hs2=>?_);replace hs2:Heap.SameBut e h1 h2:=hs2;have helt:e<s.heap.objs.size:=zq7 he;have hk2:∀b o,b≠e->b≠it->s.heap.get? b=some o->h2.get? b=some o:=fun b o b1 b2 q=>(hs2.2 b b1).trans (hk b o b1 b2 q);have hT2:h2.get? s.heap.objs.size=some {cls:=.type "tuple",data:=.seq #[.int i s.toks,u]}:=(hs2.2 _ (vJ helt)).trans hT;have hn:H s.heap.objs.size=none:=I.hok.fresh (zq5 _);have nE:∀b v,H b=some v->b≠e:=fun b v q z=>by rw [z,f0] at q;cases q
  have nI:∀b v,H b=some v->b≠it:=fun b v q z=>by rw [z,g0] at q;cases q
  have ok2:HOk X.prog X.w H h2:=fun b v q=>(I.hok b v q).stay (fun c v' hc r=>by
   rcases hc with z | z
   ·exact hk2 c v' (by rw [z];exact nE b v q) (by rw [z];exact nI b v q) r
   ·exact hk2 c v' (nE c _ z) (nI c _ z) r) (fun _ r=>r) fun _ _ r=>r
  have ok3:HOk X.prog X.w (upd H s.heap.objs.size (.tup [.int i,x])) h2:=fun b v q=>by
   by_cases hb:b=s.heap.objs.size
   ·subst hb;rw [upd_same] at q
    cases q
    exact ⟨by show 2<=sizeLine;decide,zA ([.int i s.toks,u]) (.cons ⟨_,rfl⟩ (.cons ru .nil)) (zF _ hT2 rfl ⟨_,rfl⟩)⟩
   ·rw [aC hb] at q;exact (ok2 b v q).stay (fun c v' _ r=>r) (fun c r=>by rw [aC (aw r hn)];exact r) fun c ys r=>by rw [aC (aw r hn)];exact r
  have nlt:∀{b:Addr} {o:Obj},s.heap.get? b=some o->b≠s.heap.objs.size:=fun q=>cA (zq7 q);have I2:Inv X pins σ (upd H s.heap.objs.size (.tup [.int i,x])) {s with heap:=h2,toks:=s.toks+1}:=
   I.step (g':=s.gens) (d':=s.drawn) (ch:=[e,it]) (fun b hb=>by
     rcases zq1.mp hb with rfl | hb
     ·exact zH f3 f1 f4 f5
     ·have e':b=it:=by simpa using hb
      subst e';exact zH g3 g1 g4 g5)
    (fun b o _ _ hc q _=>hk2 b o (fun z=>hc (by simp [z])) (fun z=>hc (by simp [z])) q)
    (fun b o _ _ hc q _=>⟨o.slots,hk2 b o (fun z=>hc (by simp [z])) (fun z=>hc (by simp [z])) q⟩)
    (fun b o _ q n=>by rw [aC (nlt q)];exact n)
    (fun b o hc q=>⟨o,hk2 b o (fun z=>hc (by simp [z])) (fun z=>hc (by simp [z])) q⟩)
    (fun b ys q=>by rw [aC (aw q hn)];exact q) (fun b o v q=>by rw [aC (aw q hn)];exact q) (fun b ps q=>⟨#[],by rw [aC (aw q hn),q];simp⟩)
    (fun m ⟨o,es,ep,hm,r⟩=>zI o es ep (hk2 _ o (Ne.symm f1) (Ne.symm g1) hm) r) ok3 I.bare
  refine zP (.ref s.heap.objs.size) _ I2 rfl (zD _ x rfl hn rfl fun ys hy=>by rw [I.list_inj hy hq];exact hx) ⟨⟨_,by simpa using he2⟩,hit1.at fun o y=>(hs2.2 it hei.symm).trans y⟩ fun b hb=>?_;rcases zq1.mp hb with rfl | hb
  ·rw [aC (cA helt)];exact f0
  ·have e':b=it:=by simpa using hb
   subst e';obtain ⟨o,q,_⟩:=hit;rw [aC (nlt q)];exact g0
 done:=by intro X hP hw hK hc i pins s σ H E I hf st hg;subst hP hw hK;obtain ⟨xs,hq,hx⟩:=hg;obtain ⟨its,rv,p,hz⟩:=I.list hq;obtain ⟨⟨old,he⟩,hit⟩:=st;obtain ⟨g0,g1,g2,g3,g4,g5⟩:=hf it Jo;have hl:=rv.length;exact wpAny_pyNext_enum_end (I.ok.hd hc) he hit p.isList (by simp;omega) fun h' eb=>⟨rfl,I.turned (t':=s.toks) (it:=it) (fun b o hb q=>eb b o hb q) g0 g1 g3 g4 g5⟩
 self:=fun _ _ _ _ _ ⟨⟨_,he⟩,_⟩ h=>wpAny_pyIter_enum he h
def nz(K:W.Frag)(ta:TA):TI:=fun σ H R=>ta σ H fun vs H1=>∃a,vs=[.ref a]/\(∃xs,SqL K H1 a xs)/\R (Ite K a) H1
theorem qF{X:Cx}{a:Expr}{ta:TA}{p pos pos0:Pos}{elts:List Expr}{k0:Nat}(hm:X.mg "enumerate"=none) (ha:PA X [a] ta) (hg:Gl X "enumerate":=by rfl) (hs:starEach [a] X.env=[(false,eval a X.env)]:=by rfl) :
  PI X (.Tuple elts k0 pos0) (.Call (.Name "enumerate" p) [a] [] pos) (nz X.K ta):=by
 intro pins s σ H R I h;refine Call_ (eu I hg hm boot_enumerate (PyProof.Rows.callWith_type1 (thn (ha pos pins s σ H _ I h) fun us s1 hhx=>?_) hs rfl));obtain ⟨vs,H1,I1,r1,q1⟩:=hhx;obtain ⟨l,e,⟨xs,hq⟩,q⟩:=q1;subst e
 cases r1 with
 |cons r rr=>
  cases rr
  cases r
  obtain ⟨its,rv,pl,hz⟩:=I1.list hq;refine call_enumerate_list pl.isList fun h' he hit hsz hk=>?_;refine wpAny_pyIter_enum he ?_;have I2:Inv X pins σ H1 {s1 with heap:=h'}:=I1.kept (t':=s1.toks) hk;refine ze (s1.heap.objs.size+1) ([s1.heap.objs.size+1,s1.heap.objs.size]) _ _ H1 rfl I2 (mB l _ _ (Nat.succ_ne_self _)) ⟨⟨_,he⟩,hit⟩ (fun b hb=>?_) q;have hle:s1.heap.objs.size<=b:=by
   rcases zq1.mp hb with rfl | hb
   ·exact rf _
   ·rw [zq9.mp hb];exact zq5 _
  exact I1.fpOk hle (I1.hok.fresh hle)
theorem nk{K:W.Frag}{a:Addr}{xs:List V}{g:TG}{tb:TS}{D:cy}{σ:St}{H:Hp}(Pv:Nat->St->Hp->Prop)(h0:Pv 0 σ H)(hl:∀i σ H,i<=xs.length->Pv i σ H->SqL K H a xs)
  (hs:∀(i:Nat)x σ H p,xs[i]?=some x->H p=none->Pv i σ H->g (.ref p) σ (upd H p (.tup [.int i,x])) fun σ2 H2=>tb {D with nx:=Pv (i+1),ct:=Pv (i+1),bk:=D.nx} σ2 H2) (hd:∀σ H,Pv xs.length σ H->D.nx σ H) :
  ∃W:Nat->Nat->St->Hp->Prop,(∃m,W 0 m σ H)/\∀i m σ H,W i m σ H->
   ((Ite K a).stop i H/\D.nx σ H)\/((Ite K a).go i H/\∃N:St->Hp->Prop,(∀σ' H',N σ' H'->∃m',m'<m/\W (i+1) m' σ' H')/\∀x H',(Ite K a).yld i H x H'->g x σ H' fun σ2 H2=>tb {D with nx:=N,ct:=N,bk:=D.nx} σ2 H2):=by
 refine zA (fun i m σ H=>m=xs.length-i/\i<=xs.length/\Pv i σ H) (zF xs.length Jo (ek _) h0) ?_;rintro i m σ H ⟨rfl,hi,p⟩;have q:=hl i σ H hi p
 by_cases hlt:i<xs.length
 ·refine .inr ⟨zE xs (xs[i]) q (by simp [hlt]),zA (Pv (i+1)) (fun σ' H' p'=>zG (xs.length-(i+1)) Jn rfl hlt p') fun x H' y=>?_⟩;obtain ⟨pp,z,ex,hn,eH,y⟩:=y;subst ex eH;exact hs i z σ H pp (y xs q) hn p
 ·have e:i=xs.length:=by omega
  subst e;exact .inl ⟨zA xs q (zq5 _),hd σ H p⟩
theorem ip{ns:List Int}(h:W.WData.layableAll [W.WData.list (ns.map W.WData.int)]=true):∀n∈ns,Builtin.Int.intBits n<=2 ^ 20:=fun n hn=>by have h1:=(W.layW_cons h).1;have h2:=W.layableW_item h1 (W.WData.int n) (zq33.mpr (zA n hn rfl));exact PyData.bits_of_layable (W.layable0_of_all (W.lay0_int h2))
section
open PySem.W PySem.Calls
theorem pL{l:W.OpenLaw}{n k:Nat}{q:Program}{loose:List Str}{XP:(Str->Option Value)->Heap->Prop}{YP:World->Heap->Prop}{d:DefRec}{K:Params->W.Frag}{CX:World->CXT}{sp:World->Sp}{x:Str}
  (hn:l.most=some n) (hn2:n<=sizeLine) (hdf:d.params.defaults=[]) (hr:Room k callerA)
  (hY:∀(w:World)(h:Heap),YP w h->(K w.params).In h)
  (F:∀(w:World)(mg:Str->Option Value)(fa:Addr)(h:Heap),(K w.params).In h->h.Ns mainGlobals mg->mg d.name=some (.ref fa)->
   ∃fd:FuncData,(∀(s:Shared)(u:Value),BindsTo s fd ⟨[u],[]⟩ [(x,u)])/\
    ∀base:Heap,(K w.params).In base->base.Ns mainGlobals mg->FnOk l.prog w (K w.params) mg base (CX w) k fa fd [x] (sp w))
  (hsp:∀(w:World)(H:Hp)(a:Addr)(ns:List Int),ns.length<=n->(∀z∈ns,Builtin.Int.intBits z<=2 ^ 20)->tI H->SqL (K w.params) H a (ns.map V.int)->sp w [.ref a] H (fun v _=>v=.bl true) fun _ _ _=>False)
  (hCX:∀(w:World)(H:Hp)(s:Shared)(e:Value)(s':Shared),CX w [] H s (fun _ _ _=>False) e s'->False) :
  W.WalkO q loose XP YP l.row.toRowW d [] (fun f vs=>PySem.call f vs):=by
 intro w s₀ s₁ mg mb G Y fa o pm cd doc dV kV ho hd hcd hD hmg hg args vals as hpre hlay hrd hwl hlo;obtain rfl:dV=.none:=Dflts.none hD hdf;obtain rfl:kV=.none:=Dflts.noKw hD;obtain ⟨a,vs,ns,rfl,rfl,hobj,hints,hlen⟩:=Att.mw hn hpre hwl;have KX:=hY w _ Y;obtain ⟨fd,hb,hF⟩:=F w mg fa _ KX G.T.g hmg;refine enter_call (codeAny_mono (nJ KX G.T.g G.T.b G.T.builtins G.T.nolimit hg hobj hints (eO hlen hn2) hr hF hb (fun H hO hS=>hsp w H a ns hlen (ip hlay) hO hS) fun H e s'=>hCX w H s₁ e s') fun r s' hq=>?_);obtain ⟨rfl,h2,h3,h4⟩:=hq;exact zH (.inl (zQ (.bool true) (.bool true) ([]) rfl (fun _=>rfl) (.bool true) (Att.mj l _) fun _=>⟨List.Pairwise.nil,fun _ hm=>(nomatch hm)⟩)) h2 h3 h4
end
end L2
namespace L2
variable {a p:Addr} {a0 a1 a10 a2 a3 a4 a5 a6 a7 a8 a9 b:Option V} {c i j:Int} {n:Nat} {r:St} {t:TA} {ta te:TE} {xs:List V}
section
variable {H:Hp} {Q:VK} {σ:St} {D:cy}
theorem yb{v:V}{Z:St->Hp->Prop}:bp 0 v (b::r) H Z=Z (some v::r) H:=rfl
theorem yc{v:V}{Z:St->Hp->Prop}:bp 1 v (a0::b::r) H Z=Z (a0::some v::r) H:=rfl
theorem yd{v:V}{Z:St->Hp->Prop}:bp 2 v (a0::a1::b::r) H Z=Z (a0::a1::some v::r) H:=rfl
theorem ye{v:V}{Z:St->Hp->Prop}:bp 3 v (a0::a1::a2::b::r) H Z=Z (a0::a1::a2::some v::r) H:=rfl
theorem yf{v:V}{Z:St->Hp->Prop}:bp 4 v (a0::a1::a2::a3::b::r) H Z=Z (a0::a1::a2::a3::some v::r) H:=rfl
theorem yg{v:V}{Z:St->Hp->Prop}:bp 5 v (a0::a1::a2::a3::a4::b::r) H Z=Z (a0::a1::a2::a3::a4::some v::r) H:=rfl
theorem yh{v:V}{Z:St->Hp->Prop}:bp 6 v (a0::a1::a2::a3::a4::a5::b::r) H Z=Z (a0::a1::a2::a3::a4::a5::some v::r) H:=rfl
theorem yi{v:V}{Z:St->Hp->Prop}:bp 7 v (a0::a1::a2::a3::a4::a5::a6::b::r) H Z=Z (a0::a1::a2::a3::a4::a5::a6::some v::r) H:=rfl
theorem yj{v:V}{Z:St->Hp->Prop}:bp 8 v (a0::a1::a2::a3::a4::a5::a6::a7::b::r) H Z=Z (a0::a1::a2::a3::a4::a5::a6::a7::some v::r) H:=rfl
theorem yk{v:V}{Z:St->Hp->Prop}:bp 9 v (a0::a1::a2::a3::a4::a5::a6::a7::a8::b::r) H Z=Z (a0::a1::a2::a3::a4::a5::a6::a7::a8::some v::r) H:=rfl
theorem wY{v:V}{Z:St->Hp->Prop}:bp 10 v (a0::a1::a2::a3::a4::a5::a6::a7::a8::a9::b::r) H Z=Z (a0::a1::a2::a3::a4::a5::a6::a7::a8::a9::some v::r) H:=rfl
theorem wZ{v:V}{Z:St->Hp->Prop}:bp 11 v (a0::a1::a2::a3::a4::a5::a6::a7::a8::a9::a10::b::r) H Z=Z (a0::a1::a2::a3::a4::a5::a6::a7::a8::a9::a10::some v::r) H:=rfl
theorem x2{v:V}{Z:St->Hp->Prop}{a11:Option V}:bp 12 v (a0::a1::a2::a3::a4::a5::a6::a7::a8::a9::a10::a11::b::r) H Z=Z (a0::a1::a2::a3::a4::a5::a6::a7::a8::a9::a10::a11::some v::r) H:=rfl
theorem x3{v:V}{Z:St->Hp->Prop}{a11:Option V}{a12:Option V}:bp 13 v (a0::a1::a2::a3::a4::a5::a6::a7::a8::a9::a10::a11::a12::b::r) H Z=Z (a0::a1::a2::a3::a4::a5::a6::a7::a8::a9::a10::a11::a12::some v::r) H:=rfl
theorem r_c{v:V}:tC v σ H Q=Q v H:=rfl
theorem yp{r:R2}{tb:TE}:tOp r ta tb σ H Q=ta σ H fun x H1=>tb σ H1 fun y H2=>r x y H2 Q:=rfl
theorem yt{r:V->Hp->VK->Prop}:tUn r ta σ H Q=ta σ H fun x H1=>r x H1 Q:=rfl
theorem ix:decide (V.int i=V.int j)=decide (i=j):=by
 by_cases h:i=j
 ·rw [decide_eq_true h,decide_eq_true (congrArg V.int h)]
 ·rw [decide_eq_false h,decide_eq_false fun q=>h (V.int.inj q)]
theorem iy{i j:Str}:decide (V.str i=V.str j)=decide (i=j):=by
 by_cases h:i=j
 ·rw [decide_eq_true h,decide_eq_true (congrArg V.str h)]
 ·rw [decide_eq_false h,decide_eq_false fun q=>h (V.str.inj q)]
theorem wU:rEq (.int i) (.int j) H Q=Q (.bl (decide (i=j))) H:=by show (jR (.int i) (.int j)=true/\Q (.bl (decide (V.int i=V.int j))) H)=_;rw [ix];exact propext ⟨fun h=>h.2,fun h=>⟨rfl,h⟩⟩
theorem wV{i j:Str}:rEq (.str i) (.str j) H Q=Q (.bl (decide (i=j))) H:=by show (jR (.str i) (.str j)=true/\Q (.bl (decide (V.str i=V.str j))) H)=_;rw [iy];exact propext ⟨fun h=>h.2,fun h=>⟨rfl,h⟩⟩
theorem xc:rNe (.int i) (.int j) H Q=Q (.bl (!decide (i=j))) H:=by show (jR (.int i) (.int j)=true/\Q (.bl (!decide (V.int i=V.int j))) H)=_;rw [ix];exact propext ⟨fun h=>h.2,fun h=>⟨rfl,h⟩⟩
theorem xf{i j:Str}:rNe (.str i) (.str j) H Q=Q (.bl (!decide (i=j))) H:=by show (jR (.str i) (.str j)=true/\Q (.bl (!decide (V.str i=V.str j))) H)=_;rw [iy];exact propext ⟨fun h=>h.2,fun h=>⟨rfl,h⟩⟩
theorem uH{c:Bool}{Z:Bool->Prop}:(∃k,V.bl c=V.bl k/\Z k)=Z c:=propext ⟨by rintro ⟨_,e,q⟩;cases e;exact q,by intro q;exact zA c rfl q⟩
theorem qJ{Z:Int->Prop}:(∃k,V.int c=V.int k/\Z k)=Z c:=propext ⟨by rintro ⟨_,e,q⟩;cases e;exact q,by intro q;exact zA c rfl q⟩
theorem v7{t:TE}{Z:Bool->Hp->Prop}:pH t σ H Z=t σ H fun x H'=>∃k,x=.bl k/\Z k H':=rfl
theorem r_B{t:TE}{Z:Bool->Hp->Prop}:tB t σ H Z=t σ H fun x H'=>∃k,x=.bl k/\Z k H':=rfl
theorem wM{t u:TT}{Z:Bool->Hp->Prop}:xt t u σ H Z=t σ H fun c H1=>if c=true then u σ H1 Z else Z false H1:=rfl
theorem yq{t u:TT}{Z:Bool->Hp->Prop}:tOr t u σ H Z=t σ H fun c H1=>if c=true then Z true H1 else u σ H1 Z:=rfl
theorem xh{t:TT}{Z:Bool->Hp->Prop}:xy t σ H Z=t σ H fun c H1=>Z (!c) H1:=rfl
theorem uw{tb:TE}:tw ta tb σ H Q=ta σ H fun x H1=>∃c,x=.bl c/\if c=true then tb σ H1 Q else Q (.bl false) H1:=rfl
theorem xi{tb:TE}:xA ta tb σ H Q=ta σ H fun x H1=>∃c,x=.bl c/\if c=true then Q (.bl true) H1 else tb σ H1 Q:=rfl
theorem v2:tF ta σ H Q=ta σ H fun x H1=>∃c,x=.bl c/\Q (.bl (!c)) H1:=rfl
theorem ym{t:TT}{tb:TE}:tIf t ta tb σ H Q=t σ H fun c H1=>if c=true then ta σ H1 Q else tb σ H1 Q:=rfl
theorem v1:tE D σ H=D.nx σ H:=rfl
theorem rN{t u:TS}:vA t u D σ H=t {D with nx:=u D} σ H:=rfl
theorem wQ:pF D σ H=D.bk σ H:=rfl
theorem uB:tD te D σ H=te σ H fun _ H1=>D.nx σ H1:=rfl
theorem xk:xB te D σ H=te σ H D.rt:=rfl
theorem x4{c:TT}{t u:TS}:xw c t u D σ H=c σ H fun b H1=>if b=true then t D σ H1 else u D σ H1:=rfl
theorem wN{g:TG}:qW te g D σ H=te σ H fun x H1=>g x σ H1 D.nx:=rfl
theorem y8{r:List V->Hp->VK->Prop}:tCB r t σ H Q=t σ H fun vs H1=>r vs H1 Q:=rfl
theorem xg{Z:List V->Hp->Prop}:my σ H Z=Z [] H:=rfl
theorem uA{tr:TA}{Z:List V->Hp->Prop}:pG ta tr σ H Z=ta σ H fun x H1=>tr σ H1 fun xs H2=>Z (x::xs) H2:=rfl
theorem uz{sp:Sp}{E:XK}:jd sp [] E t σ H Q=t σ H fun vs H1=>sp vs H1 Q E:=by show (t σ H fun vs H1=>sp (vs++[]) H1 Q E)=_;simp only [List.append_nil]
theorem xn:xC t σ H Q=t σ H fun xs H1=>xs.length<=sizeLine/\∀p,H1 p=none->Q (.ref p) (upd H1 p (.tup xs)):=rfl
theorem xb:xx t σ H Q=t σ H fun xs H1=>xs.length<=sizeLine/\∀p,H1 p=none->Q (.ref p) (upd H1 p (.lst xs)):=rfl
theorem yr{r:V->Option Int->Option Int->Hp->VK->Prop}{tl th:TO}:tSl r te tl th σ H Q=te σ H fun x H1=>tl σ H1 fun l H2=>th σ H2 fun u H3=>r x l u H3 Q:=rfl
theorem oU{Z:Option Int->Hp->Prop}:lu σ H Z=Z none H:=rfl
theorem v3{Z:Option Int->Hp->Prop}:tG te σ H Z=te σ H fun x H1=>∃i,x=.int i/\Z (some i) H1:=rfl
theorem uI{Z:St->Hp->Prop}:wg [] σ H Z=Z σ H:=propext ⟨fun h=>h.2,fun h=>⟨rfl,h⟩⟩
theorem qK{t:TG}{u:TGs}{v:V}{r:List V}{Z:St->Hp->Prop}:rq t u (v::r) σ H Z=t v σ H fun σ' H'=>u r σ' H' Z:=propext ⟨by rintro ⟨_,_,e,q⟩;cases e;exact q,by intro q;exact zE v r rfl q⟩
theorem x6{A B:Prop}:(if false=true then A else B)=B:=if_neg zq3
theorem yo:(!true)=false:=rfl
theorem yn:(!false)=true:=rfl
theorem uP:(([]:List V).length<=sizeLine)=True:=eq_true (by show 0<=sizeLine;decide)
theorem uQ{a0:V}:(([a0]:List V).length<=sizeLine)=True:=eq_true (by show 1<=sizeLine;decide)
theorem uR{a0 a1:V}:(([a0,a1]:List V).length<=sizeLine)=True:=eq_true (by show 2<=sizeLine;decide)
theorem uS{a0 a1 a2:V}:(([a0,a1,a2]:List V).length<=sizeLine)=True:=eq_true (by show 3<=sizeLine;decide)
theorem uT{a0 a1 a2 a3:V}:(([a0,a1,a2,a3]:List V).length<=sizeLine)=True:=eq_true (by show 4<=sizeLine;decide)
theorem uU{a0 a1 a2 a3 a4:V}:(([a0,a1,a2,a3,a4]:List V).length<=sizeLine)=True:=eq_true (by show 5<=sizeLine;decide)
theorem uV{a0 a1 a2 a3 a4 a5 a6:V}:(([a0,a1,a2,a3,a4,a5,a6]:List V).length<=sizeLine)=True:=eq_true (by show 7<=sizeLine;decide)
theorem uW{a0 a1 a2 a3 a4 a5 a6 a7:V}:(([a0,a1,a2,a3,a4,a5,a6,a7]:List V).length<=sizeLine)=True:=eq_true (by show 8<=sizeLine;decide)
end
def mM(J:It)(g:TG)(tb:TS)(D:cy)(σ:St)(H1:Hp):Prop:=∃W:Nat->Nat->St->Hp->Prop,(∃m,W 0 m σ H1)/\∀i m σ H,W i m σ H->
 (J.stop i H/\D.nx σ H)\/(J.go i H/\∃N:St->Hp->Prop,(∀σ' H',N σ' H'->∃m',m'<m/\W (i+1) m' σ' H')/\∀x H',J.yld i H x H'->g x σ H' fun σ2 H2=>tb {D with nx:=N,ct:=N,bk:=D.nx} σ2 H2)
section
variable {g:TG} {tb:TS} {D:cy} {σ:St} {H:Hp}
theorem wX{wi:TI}:vx wi g tb D σ H=wi σ H fun J H1=>mM J g tb D σ H1:=rfl
theorem qL{K:W.Frag}{ta:TA}{R:It->Hp->Prop}:nz K ta σ H R=ta σ H fun vs H1=>∃a,vs=[.ref a]/\(∃xs,SqL K H1 a xs)/\R (Ite K a) H1:=rfl
theorem qM{K:W.Frag}{tl:TE}{R:It->Hp->Prop}:rA K tl σ H R=tl σ H fun x H1=>∃a,x=.ref a/\(∃xs,SqL K H1 a xs)/\R (Itl K a) H1:=rfl
theorem uM{K:W.Frag}{tl:TE}{R:It->Hp->Prop}:wo K tl σ H R=tl σ H fun x H1=>∃a,x=.ref a/\(∃xs,SqT K H1 a xs)/\R (Itt K a) H1:=rfl
theorem qN{ta:TA}{R:It->Hp->Prop}:rB ta σ H R=ta σ H fun vs H1=>∃j:Int,vs=[.int j]/\-(2 ^ 62)<=j/\j<2 ^ 62/\R (Itr 0 j.toNat) H1:=rfl
theorem qO{ta:TA}{R:It->Hp->Prop}:nA ta σ H R=ta σ H fun vs H1=>∃i j:Int,vs=[.int i,.int j]/\(-(2 ^ 62)<=i/\i<2 ^ 62/\-(2 ^ 62)<=j/\j<2 ^ 62)/\R (Itr i (j-i).toNat) H1:=rfl
theorem uC{Z:Int->Prop}:(∃k,[V.int c]=[V.int k]/\Z k)=Z c:=propext ⟨by rintro ⟨_,e,q⟩;cases e;exact q,by intro q;exact zA c rfl q⟩
theorem uD{d:Int}{Z:Int->Int->Prop}:(∃k l,[V.int c,V.int d]=[V.int k,V.int l]/\Z k l)=Z c d:=propext ⟨by rintro ⟨_,_,e,q⟩;cases e;exact q,by intro q;exact zE c d rfl q⟩
theorem uE{c:Addr}{Z:Addr->Prop}:(∃k,[V.ref c]=[V.ref k]/\Z k)=Z c:=propext ⟨by rintro ⟨_,e,q⟩;cases e;exact q,by intro q;exact zA c rfl q⟩
theorem wW{c:Addr}{Z:Addr->Prop}:(∃k,V.ref c=V.ref k/\Z k)=Z c:=propext ⟨by rintro ⟨_,e,q⟩;cases e;exact q,by intro q;exact zA c rfl q⟩
theorem iB{lo:Int}(Pv:Nat->St->Hp->Prop)(h0:Pv 0 σ H)
 (hs:∀(i:Nat)σ H,i<n->Pv i σ H->g (.int (lo+i)) σ H fun σ2 H2=>tb {D with nx:=Pv (i+1),ct:=Pv (i+1),bk:=D.nx} σ2 H2) (hd:∀σ H,Pv n σ H->D.nx σ H):mM (Itr lo n) g tb D σ H:=lV Pv h0 hs hd
theorem dg(Pv:Nat->St->Hp->Prop)(h0:Pv 0 σ H)
 (hs:∀(i:Nat)σ H,i<n->Pv i σ H->g (.int (i:Int)) σ H fun σ2 H2=>tb {D with nx:=Pv (i+1),ct:=Pv (i+1),bk:=D.nx} σ2 H2) (hd:∀σ H,Pv n σ H->D.nx σ H):mM (Itr 0 n) g tb D σ H:=
 iB Pv h0 (fun i σ H hi p=>by rw [Int.zero_add];exact hs i σ H hi p) hd
theorem qf{K:W.Frag}(Pv:Nat->St->Hp->Prop)(h0:Pv 0 σ H)(hl:∀i σ H,i<=xs.length->Pv i σ H->SqL K H a xs)
 (hs:∀(i:Nat)x σ H p,xs[i]?=some x->H p=none->Pv i σ H->g (.ref p) σ (upd H p (.tup [.int i,x])) fun σ2 H2=>tb {D with nx:=Pv (i+1),ct:=Pv (i+1),bk:=D.nx} σ2 H2) (hd:∀σ H,Pv xs.length σ H->D.nx σ H):mM (Ite K a) g tb D σ H:=nk Pv h0 hl hs hd
theorem fb{K:W.Frag}(Pv:Nat->St->Hp->Prop)(h0:Pv 0 σ H)(hl:∀i σ H,i<=xs.length->Pv i σ H->SqL K H a xs)
 (hs:∀(i:Nat)x σ H,xs[i]?=some x->Pv i σ H->g x σ H fun σ2 H2=>tb {D with nx:=Pv (i+1),ct:=Pv (i+1),bk:=D.nx} σ2 H2) (hd:∀σ H,Pv xs.length σ H->D.nx σ H):mM (Itl K a) g tb D σ H:=nq Pv h0 hl hs hd
theorem Same.upd{H:Hp}{o:HO}(h:H p=none):Same H (upd H p o):=fun b u e=>by rw [aC (aw e h)];exact e
theorem Same.seqT{K:W.Frag}{H H':Hp}(e:Same H H')(h:SqT K H a xs):SqT K H' a xs:=by
 rcases h with (h | ⟨o,h⟩) | h
 ·exact .inl (.inl (e _ _ h))
 ·exact .inl (.inr ⟨o,e _ _ h⟩)
 ·exact .inr h
end
section
variable {H:Hp} {Q:VK} {σ:St} {D:cy} {K:W.Frag}
theorem ya{T:String}{r:V->List V->Hp->VK->Prop}{to:TE}:tBM K T r to t σ H Q=to σ H fun x H1=>tyV K T x H1/\t σ H1 fun xs H2=>r x xs H2 Q:=rfl
theorem wO{T:String}{r:V->List V->Hp->VK->Prop}{to:TE}:xu K T r to σ H Q=to σ H fun x H1=>tyV K T x H1/\r x [] H1 Q:=rfl
theorem x9{z:Str}:wG (.str z) (.int i) H Q=(z.length<=sizeLine/\∃c,atI z.cps.toList i=some c/\Q (.str ⟨#[c]⟩) H):=propext ⟨by rintro ⟨_,_,c,e1,e2,h1,h2,q⟩;cases e1;cases e2;exact ⟨h1,zA c h2 q⟩,by rintro ⟨h1,c,h2,q⟩;exact zQ _ _ c rfl rfl h1 h2 q⟩
theorem x8:wF K (.ref p) (.int i) H Q=∃xs v,SqL K H p xs/\atI xs i=some v/\Q v H:=propext ⟨by rintro ⟨_,xs,_,v,e1,e2,h1,h2,q⟩;cases e1;cases e2;exact zB xs v h1 h2 q,by rintro ⟨xs,v,h1,h2,q⟩;exact zX _ xs _ v rfl rfl h1 h2 q⟩
theorem rJ:uu K (.ref p) (.int i) H Q=∃xs v,SqT K H p xs/\atI xs i=some v/\Q v H:=propext ⟨by rintro ⟨_,xs,_,v,e1,e2,h1,h2,q⟩;cases e1;cases e2;exact zB xs v h1 h2 q,by rintro ⟨xs,v,h1,h2,q⟩;exact zX _ xs _ v rfl rfl h1 h2 q⟩
theorem wR{b:Addr}:ur (.ref a) (.ref b) H Q=∃xs zs,H a=some (.lst xs)/\H b=some (.lst zs)/\xs.length+zs.length<=sizeLine/\∀p,H p=none->Q (.ref p) (upd H p (.lst (xs++zs))):=propext ⟨by rintro ⟨_,_,xs,zs,e1,e2,h⟩;cases e1;cases e2;exact zN xs zs h,by rintro ⟨xs,zs,h⟩;exact zL _ _ xs zs (zC rfl rfl h)⟩
theorem xm{lo hi:Option Int}:wI K (.ref a) lo hi H Q=∃xs,SqL K H a xs/\∀p,H p=none->Q (.ref p) (upd H p (.lst (dE xs lo hi))):=propext ⟨by rintro ⟨_,xs,e1,h⟩;cases e1;exact ⟨xs,h⟩,by rintro ⟨xs,h⟩;exact zE _ xs rfl h⟩
theorem oP{y:V}:kU (.ref a) [y] H Q=∃xs,H a=some (.lst xs)/\xs.length<sizeLine/\Q .non (upd H a (.lst (xs++[y]))):=propext ⟨by rintro ⟨_,xs,_,e1,e2,h⟩;cases e1;cases e2;exact ⟨xs,h⟩,by rintro ⟨xs,h⟩;exact zU _ xs _ rfl rfl h⟩
theorem xj:wH (.ref a) [] H Q=∃xs y,H a=some (.lst xs)/\xs[xs.length-1]?=some y/\Q y (upd H a (.lst xs.dropLast)):=propext ⟨by rintro ⟨_,xs,y,e1,_,h⟩;cases e1;exact zN xs y h,by rintro ⟨xs,y,h⟩;exact zU _ xs y rfl rfl h⟩
theorem uG{a b:Str}{Z:Str->Str->Prop}:(∃i j,V.str a=V.str i/\V.str b=V.str j/\Z i j)=Z a b:=propext ⟨by rintro ⟨_,_,e1,e2,q⟩;cases e1;cases e2;exact q,by intro q;exact zB a b rfl rfl q⟩
theorem uF{Z:Addr->List V->Prop}:(∃p ys,[V.ref a]=[V.ref p]/\Z p ys)=∃ys,Z a ys:=propext ⟨by rintro ⟨_,ys,e1,q⟩;cases e1;exact ⟨ys,q⟩,by rintro ⟨ys,q⟩;exact zE a ys rfl q⟩
theorem uN{c:Bool}{Z:Int->Prop}{Y:Bool->Prop}:((∃i,[V.bl c]=[V.int i]/\Z i)\/∃k,[V.bl c]=[V.bl k]/\Y k)=Y c:=propext ⟨fun h=>(by rcases h with ⟨_,e,q⟩ | ⟨_,e,q⟩<;>cases e<;>exact q),fun q=>Or.inr (zA c rfl q)⟩
theorem uJ{t:TGs}{Z:St->Hp->Prop}:wj K n t (.ref a) σ H Z=∃xs,SqT K H a xs/\xs.length=n/\t xs σ H Z:=propext ⟨by rintro ⟨_,xs,e,h⟩;cases e;exact ⟨xs,h⟩,by rintro ⟨xs,h⟩;exact zE a xs rfl h⟩
end
end L2
namespace L2
section
variable {prog:Program} {w:World} {A:Around} {R:Result->Shared->Prop} {s:Shared}
end
end L2
namespace L2
inductive Dq (K:W.Frag) (H:Hp):Nat->V->V->Bool->Prop where
 |flat {n:Nat} {x y:V} (fx:cC x=true) (fy:cC y=true):Dq K H n x y (eqV x y)
 |same {n:Nat} {a:Addr}:Dq K H n (.ref a) (.ref a) true
 |lists {n:Nat} {a b:Addr} {xs ys:List V} (e:Nat->Bool) (ne:a≠b) (ha:SqL K H a xs) (hb:SqL K H b ys) (hl:xs.length=ys.length)
   (he:∀(j:Nat)x y,xs[j]?=some x->ys[j]?=some y->Dq K H n x y (e j)):Dq K H (n+1) (.ref a) (.ref b) ((List.range xs.length).all e)
 |lens {n:Nat} {a b:Addr} {xs ys:List V} (ne:a≠b) (ha:SqL K H a xs) (hb:SqL K H b ys) (hl:¬xs.length=ys.length):Dq K H (n+1) (.ref a) (.ref b) false
 |tups {n:Nat} {a b:Addr} {xs ys:List V} (e:Nat->Bool) (ne:a≠b) (ha:SqT K H a xs) (hb:SqT K H b ys)
   (he:∀(j:Nat)x y,xs[j]?=some x->ys[j]?=some y->Dq K H n x y (e j)):Dq K H (n+1) (.ref a) (.ref b) ((List.range (min xs.length ys.length)).all e&&xs.length==ys.length)
section
variable {X:Cx} {pins:List (Addr×Obj)} {σ:St} {H:Hp} {s:Shared}
theorem cS{xs:List V}{its:List Value}(r:Vals xs its){j:Nat}(h:j<its.toArray.size):∃x,xs[j]?=some x/\RelV x its.toArray[j]:=by
 have hl:=r.length;have hj:j<xs.length:=by simpa [hl] using h
 obtain ⟨u,hu,ru⟩:=r.get (dc hj);have e:its.toArray[j]=u:=by
  have h2:its[j]?=some u:=hu;have h3:j<its.length:=by simpa using h
  rw [dc h3] at h2;simpa using h2
 exact zA (xs[j]) (dc hj) (by rw [e];exact ru)
theorem Dq.at(I:Inv X pins σ H s){n:Nat}{x y:V}{b:Bool}(d:Dq X.K H n x y b):∀{A:Around} {v u:Value},RelV x v->RelV y u->A.units+n<cLine->SeqAt.EqAt A s v u b:=by
 induction d with
 |flat fx fy=>intro A v u rv ru _;exact nh rv ru fx fy
 |same=>intro A v u rv ru _;cases rv;cases ru;exact SeqAt.EqAt.same _
 | @lists n a b xs ys e ne ha hb hl he ih=>
  intro A v u rv ru hu
  cases rv;cases ru
  obtain ⟨its,r,p,_⟩:=I.list ha;obtain ⟨its2,r2,p2,_⟩:=I.list hb;have e1:=r.length;have e2:=r2.length;have z:=SeqAt.RcAt.lists (A:=A) (e:=e) p.isList p2.isList (by simp;omega) Jn fun j h1 h2=>by obtain ⟨x,hx,rx⟩:=cS r h1;obtain ⟨y,hy,ry⟩:=cS r2 h2;exact ih j x y hx hy rx ry (by show A.units+1+n<cLine;omega)
  have e3:its.toArray.size=xs.length:=by simp [e1]
  rw [e3] at z;exact SeqAt.EqAt.of_refs ne z
 | @lens n a b xs ys ne ha hb hl=>
  intro A v u rv ru hu
  cases rv;cases ru
  obtain ⟨its,r,p,_⟩:=I.list ha;obtain ⟨its2,r2,p2,_⟩:=I.list hb;have e1:=r.length;have e2:=r2.length;exact SeqAt.EqAt.of_refs ne (SeqAt.RcAt.lists_lengths (A:=A) p.isList p2.isList (by simp;omega) Jn)
 | @tups n a b xs ys e ne ha hb he ih=>
  intro A v u rv ru hu
  cases rv;cases ru
  obtain ⟨its,r,p,_⟩:=I.tuple ha;obtain ⟨its2,r2,p2,_⟩:=I.tuple hb;have e1:=r.length;have e2:=r2.length;have z:=SeqAt.RcAt.tuples (A:=A) (e:=e) (show s.heap.IsTuple a its.toArray from p) (show s.heap.IsTuple b its2.toArray from p2) Jn fun j h1 h2=>by obtain ⟨x,hx,rx⟩:=cS r h1;obtain ⟨y,hy,ry⟩:=cS r2 h2;exact ih j x y hx hy rx ry (by show A.units+1+n<cLine;omega)
  have e3:its.toArray.size=xs.length:=by simp [e1]
  have e4:its2.toArray.size=ys.length:=by simp [e2]
  rw [e3,e4] at z;exact SeqAt.EqAt.of_refs ne z
end
inductive Rq (K:W.Frag) (H:Hp) (n:Nat):V->V->Bool->Prop where
 |lists {a b:Addr} {xs ys:List V} (e:Nat->Bool) (ha:SqL K H a xs) (hb:SqL K H b ys) (hl:xs.length=ys.length)
   (he:∀(j:Nat)x y,xs[j]?=some x->ys[j]?=some y->Dq K H n x y (e j)):Rq K H n (.ref a) (.ref b) ((List.range xs.length).all e)
 |lens {a b:Addr} {xs ys:List V} (ha:SqL K H a xs) (hb:SqL K H b ys) (hl:¬xs.length=ys.length):Rq K H n (.ref a) (.ref b) false
 |tups {a b:Addr} {xs ys:List V} (e:Nat->Bool) (ha:SqT K H a xs) (hb:SqT K H b ys)
   (he:∀(j:Nat)x y,xs[j]?=some x->ys[j]?=some y->Dq K H n x y (e j)):Rq K H n (.ref a) (.ref b) ((List.range (min xs.length ys.length)).all e&&xs.length==ys.length)
def xZ(K:W.Frag)(n:Nat):R2:=fun x y H Q=>∃b,Rq K H n x y b/\Q (.bl b) H
def y7(K:W.Frag)(n:Nat):R2:=fun x y H Q=>∃b,Rq K H n x y b/\Q (.bl (!b)) H
section
variable {X:Cx}
theorem jI{n:Nat}(hu:X.A.units+(n+1)<cLine):OpR X (compareOp .Eq) (xZ X.K n):=by
 intro pins s σ H x y v u Q I rx ry h;obtain ⟨b,d,q⟩:=h
 cases d with
 | @lists a c xs ys e ha hb hl he=>
  cases rx;cases ry
  obtain ⟨its,r,p,_⟩:=I.list ha;obtain ⟨its2,r2,p2,_⟩:=I.list hb;have e1:=r.length;have e2:=r2.length;have e3:its.toArray.size=xs.length:=by simp [e1]
  refine SeqAt.eq_listAt (e:=e) p.isList p2.isList (by simp;omega) Jn (fun j h1 h2=>?_) (zB (.bl _) H I rfl (by rw [e3];exact q));obtain ⟨x,hx,rx⟩:=cS r h1;obtain ⟨y,hy,ry⟩:=cS r2 h2;exact (he j x y hx hy).at I rx ry (by show X.A.units+1+n<cLine;omega)
 | @lens a c xs ys ha hb hl=>
  cases rx;cases ry
  obtain ⟨its,r,p,_⟩:=I.list ha;obtain ⟨its2,r2,p2,_⟩:=I.list hb;have e1:=r.length;have e2:=r2.length;exact SeqAt.eq_list_lengthsAt p.isList p2.isList (by simp;omega) Jn (zB (.bl _) H I rfl q)
 | @tups a c xs ys e ha hb he=>
  cases rx;cases ry
  obtain ⟨its,r,p,_⟩:=I.tuple ha;obtain ⟨its2,r2,p2,_⟩:=I.tuple hb;have e1:=r.length;have e2:=r2.length;have e3:its.toArray.size=xs.length:=by simp [e1]
  have e4:its2.toArray.size=ys.length:=by simp [e2]
  refine SeqAt.eq_tupleAt (e:=e) (show s.heap.IsTuple a its.toArray from p) (show s.heap.IsTuple c its2.toArray from p2) Jn (fun j h1 h2=>?_) (zB (.bl _) H I rfl (by rw [e3,e4];exact q));obtain ⟨x,hx,rx⟩:=cS r h1;obtain ⟨y,hy,ry⟩:=cS r2 h2;exact (he j x y hx hy).at I rx ry (by show X.A.units+1+n<cLine;omega)
theorem dH{n:Nat}(hu:X.A.units+(n+1)<cLine):OpR X (compareOp .NotEq) (y7 X.K n):=by
 intro pins s σ H x y v u Q I rx ry h;obtain ⟨b,d,q⟩:=h
 cases d with
 | @lists a c xs ys e ha hb hl he=>
  cases rx;cases ry
  obtain ⟨its,r,p,_⟩:=I.list ha;obtain ⟨its2,r2,p2,_⟩:=I.list hb;have e1:=r.length;have e2:=r2.length;have e3:its.toArray.size=xs.length:=by simp [e1]
  refine SeqAt.RcNeAt.lists (A:=X.A) (e:=e) p.isList p2.isList (by simp;omega) Jn (fun j h1 h2=>?_) X.prog X.w X.xe _ (zB (.bl _) H I rfl (by rw [e3];exact q));obtain ⟨x,hx,rx⟩:=cS r h1;obtain ⟨y,hy,ry⟩:=cS r2 h2;exact (he j x y hx hy).at I rx ry (by show X.A.units+1+n<cLine;omega)
 | @lens a c xs ys ha hb hl=>
  cases rx;cases ry
  obtain ⟨its,r,p,_⟩:=I.list ha;obtain ⟨its2,r2,p2,_⟩:=I.list hb;have e1:=r.length;have e2:=r2.length;exact SeqAt.RcNeAt.lists_lengths (A:=X.A) p.isList p2.isList (by simp;omega) Jn X.prog X.w X.xe _ (zB (.bl _) H I rfl q)
 | @tups a c xs ys e ha hb he=>
  cases rx;cases ry
  obtain ⟨its,r,p,_⟩:=I.tuple ha;obtain ⟨its2,r2,p2,_⟩:=I.tuple hb;have e1:=r.length;have e2:=r2.length;have e3:its.toArray.size=xs.length:=by simp [e1]
  have e4:its2.toArray.size=ys.length:=by simp [e2]
  refine SeqAt.RcNeAt.tuples (A:=X.A) (e:=e) (show s.heap.IsTuple a its.toArray from p) (show s.heap.IsTuple c its2.toArray from p2) Jn (fun j h1 h2=>?_) X.prog X.w X.xe _ (zB (.bl _) H I rfl (by rw [e3,e4];exact q));obtain ⟨x,hx,rx⟩:=cS r h1;obtain ⟨y,hy,ry⟩:=cS r2 h2;exact (he j x y hx hy).at I rx ry (by show X.A.units+1+n<cLine;omega)
end
end L2
namespace L2
def cM(cells:List (Str×Addr)):List (Str×NameKind)->List (Str×Addr)->List (Str×Addr)
 | [],acc=>acc
 | (n,k)::r,acc=>if k==.free then cM cells r ((n,(cells.lookup n).getD 0)::acc) else cM cells r acc
theorem dA{scope:Scope}{env:Env}(h:∀y∈scope.names,y.2=.free->∃c,env.cells.lookup y.1=some c):closureFor scope env=pure (cM env.cells scope.names []):=by
 have key:∀(names:List (Str×NameKind)) (acc:List (Str×Addr)),(∀y∈names,y.2=.free->∃c,env.cells.lookup y.1=some c)->
   (forIn names acc fun x (r:List (Str×Addr))=>match x with
    | (name,kind)=>if (kind==.free)=true then do let c <- cellOf env name;pure (ForInStep.yield ((name,c)::r)) else pure (ForInStep.yield r))=(pure (cM env.cells names acc):Sem (List (Str×Addr))):=by
  intro names
  induction names with
  |nil=>intro acc _;rfl
  |cons y r ih=>
   intro acc hy;obtain ⟨n,k⟩:=y;rw [List.forIn_cons]
   cases hk:(k==NameKind.free) with
   |true=>
    have hk':k=.free:=by simpa using hk
    obtain ⟨c,hc⟩:=hy (n,k) zq4 hk';have e:cellOf env n=pure c:=by unfold cellOf;rw [show env.cells.lookup n=some c from hc]
    simp only [hk,if_true,e,pure_bind];rw [ih _ fun z hz=>hy z (zq2 _ hz)];simp only [cM,hk,if_true];rw [show env.cells.lookup n=some c from hc];rfl
   |false=>simp only [hk,Bool.false_eq_true,if_false,pure_bind];rw [ih _ fun z hz=>hy z (zq2 _ hz)];simp only [cM,hk,Bool.false_eq_true,if_false]
 refine (show closureFor scope env=((forIn scope.names [] fun x (r:List (Str×Addr))=>match x with
    | (name,kind)=>if (kind==.free)=true then do let c <- cellOf env name;pure (ForInStep.yield ((name,c)::r)) else pure (ForInStep.yield r)) >>= fun cs=>pure cs) from rfl).trans ?_
 rw [key scope.names [] h];rfl
theorem fu{cells:List (Str×Addr)}:∀{names:List (Str×NameKind)} {acc:List (Str×Addr)},(∀y∈names,y.2=.free->∃c,cells.lookup y.1=some c)->(∀y c,acc.lookup y=some c->cells.lookup y=some c)->
  ∀y c,(cM cells names acc).lookup y=some c->cells.lookup y=some c
 | [],_,_,ha=>ha
 | (n,k)::r,acc,hn,ha=>by
  intro y c;unfold cM
  split
  ·next hk=>
   refine fu (fun z hz=>hn z (zq2 _ hz)) (fun z d hz=>?_) y c;obtain ⟨e,he⟩:=hn (n,k) zq4 (by simpa using hk);rw [rh] at hz
   split at hz
   ·next hq=>
    have:z=n:=by simpa using hq
    subst this;have he':cells.lookup z=some e:=he;rw [he'] at hz ⊢;exact hz
   ·exact ha z d hz
  ·exact fu (fun z hz=>hn z (zq2 _ hz)) ha y c
theorem ft{cells:List (Str×Addr)}{y:Str}:∀{names:List (Str×NameKind)} {acc:List (Str×Addr)},(∃c,acc.lookup y=some c)->∃c,(cM cells names acc).lookup y=some c
 | [],_,h=>h
 | (n,k)::r,acc,h=>by
  unfold cM
  split
  ·refine ft ?_;rw [rh]
   split
   ·exact ⟨_,rfl⟩
   ·exact h
  ·exact ft h
theorem cY{cells:List (Str×Addr)}{y:Str}:∀{names:List (Str×NameKind)} {acc:List (Str×Addr)},(y,NameKind.free)∈names->∃c,(cM cells names acc).lookup y=some c
 | (n,k)::r,acc,h=>by
  unfold cM;rcases zq1.mp h with e | e
  ·cases e
   rw [if_pos Jp];exact ft ⟨(cells.lookup y).getD 0,by rw [rh,beq_self_eq_true]⟩
  ·split
   ·exact cY e
   ·exact cY e
structure Bk where
 C:Addr
 fp:List Addr
 s₂:Shared
 H₂:Hp
def Cx.blk(X:Cx)(N':List Str)(scope:Scope)(b:Bk):Cx:=
 {prog:=X.prog,w:=X.w,K:=X.K,mg:=X.mg,base:=X.base,A:=X.A,N:=N',s₀:=b.s₂,H₀:=b.H₂,env:=compEnvC scope (cM X.env.cells scope.names []) b.C X.env,outer:=X.stack,stack:=X.stack,ex:=b.fp,fn:=fun _=>false,calm:=X.calm,pn:=[],xe:=fun _ _=>False}
def aT(os:List (Option V))(ci:List Nat)(σ:St):St:=none::(os++ci.map fun i=>(σ[i]?).join)
def bP(J:It)(g:TG)(tt:TT)(te:TE)(nt:Nat)(ci:List Nat)(σ:St)(acc:Addr)(Q:Hp->Prop)(H0:Hp):Prop:=∃W:Nat->Nat->List V->Hp->Prop,(∃m,W 0 m [] H0)/\∀i m ys H,W i m ys H->
 (J.stop i H/\Q H)\/(J.go i H/\∃N:List V->Hp->Prop,(∀zs H',N zs H'->∃m',m'<m/\W (i+1) m' zs H')/\∀y H' os,os.length=nt->J.yld i H y H'->g y (aT os ci σ) H' fun σ1 H1=>(∃os',os'.length=nt/\σ1=aT os' ci σ)/\tt σ1 H1 fun b H2=>if b=true then te σ1 H2 fun z H3=>H3 acc=some (.lst ys)/\ys.length<sizeLine/\N (ys++[z]) (upd H3 acc (.lst (ys++[z]))) else N ys H2)
def jV(wi:TI)(g:Bk->TG)(tt:Bk->TT)(te:Bk->TE)(nt:Nat)(ci:List Nat):TE:=fun σ H Q=>wi σ H fun J H1=>∀acc,H1 acc=none->∀bk:Bk,bP J (g bk) (tt bk) (te bk) nt ci σ acc (fun H'=>Q (.ref acc) H') (upd H1 acc (.lst []))
def pZ(X:Cx)(ifs:List Expr)(t:TT):Prop:=
 ∀(pins:List (Addr×Obj)) (s:Shared) (σ:St) (H:Hp) (Q:Bool->Hp->Prop),Inv X pins σ H s->t σ H Q->
  wpAny (model X.prog X.w) X.A (forIn ifs true fun c r=>if r=true then do let ok <- isTrue c X.env (eval c X.env);pure (ForInStep.yield ok) else pure (ForInStep.yield r)) (TP X pins σ Q) X.xe s
def mz:TT:=fun _ H Q=>Q true H
structure CompSc(X:Cx)(scope:Scope)(cns:List Str)(ci:List Nat):Prop where
 kind:scope.kind=.function
 cell:∀y∈scope.names,y.2≠.cell
 names:∀y∈scope.names,y.2=.local->scope.names.lookup y.1=some .local
 free:∀y∈scope.names,y.2=.free->X.env.kindOf y.1=some .cell\/X.env.kindOf y.1=some .free
 cap:∀(j:Nat)x,cns[j]?=some x->∃i,ci[j]?=some i/\X.N[i]?=some x/\(x,NameKind.free)∈scope.names
 len:cns.length=ci.length
 noloc:∀y,(y,NameKind.free)∈scope.names->¬(relabel scope X.env).names.lookup y=some .local
theorem cf{env:Env}:∀{names:List (Str×NameKind)} {y:Str} {k:NameKind},(names.map fun (n,k)=>if (k==NameKind.free&&env.scope.kind==.function&&env.kindOf n==some .cell) then (n,NameKind.cell) else (n,k)).lookup y=some k->k=.cell\/k=.free->
  (∀z∈names,z.2≠.cell)->(y,NameKind.free)∈names
 | [],_,_,h,_,_=>by simp at h
 | (n,k0)::r,y,k,h,hk,hc=>by
  rw [cG,rh] at h
  by_cases hf:(k0==NameKind.free&&env.scope.kind==.function&&env.kindOf n==some .cell)=true
  ·simp only [hf,if_true] at h;have k0f:k0=.free:=by have:=hf;simp only [Bool.and_eq_true] at this;simpa using this.1.1
   split at h
   ·next hq=>
    have:y=n:=by simpa using hq
    subst this;subst k0f;exact zq4
   ·exact zq2 _ (cf h hk fun z hz=>hc z (zq2 _ hz))
  ·simp only [hf] at h
   split at h
   ·next hq=>
    have:y=n:=by simpa using hq
    subst this;have e:k0=k:=by simpa using h
    subst e;rcases hk with z | z
    ·exact absurd z (hc _ zq4)
    ·subst z;exact zq4
   ·exact zq2 _ (cf h hk fun z hz=>hc z (zq2 _ hz))
section
variable {prog:Program} {w:World} {A:Around} {R:Result->Shared->Prop} {s:Shared}
theorem gM{elt target iter:Expr}{ifs:List Expr}{scope:Scope}{pos:Pos}{it acc:Value}{env:Env}(I:Nat->Shared->Prop)
  (turn:∀n s,I n s->wpAny (model prog w) A (pyNext it) (fun r s₁=>match r with
   |none=>R (.ok .next) s₁
   |some v=>wpAny (model prog w) A (letOwnedTupleGo target it v) (fun _ s₅=>wpAny (model prog w) A (assign target env v) (fun _ s₂=>
     wpAny (model prog w) A (forIn ifs true fun c r=>if r=true then do let ok <- isTrue c env (eval c env);pure (ForInStep.yield ok) else pure (ForInStep.yield r)) (fun ok s₃=>
      if ok=true then wpAny (model prog w) A (eval elt env) (fun x s₄=>wpAny (model prog w) A (call (.builtin "list.append") [acc,x]) (fun _ s₅=>∃m,m<n/\I m s₅) (fun _ _=>False) s₄) (fun _ _=>False) s₃
      else ∃m,m<n/\I m s₃) (fun _ _=>False) s₂) (fun _ _=>False) s₅) (fun _ _=>False) s₁) (fun _ _=>False) s)
  (n:Nat) (h:I n s) :
  codeAny (model prog w) A (.compLoop (.ListComp elt [⟨target,iter,ifs,0⟩] scope pos) 0 it acc env) R s:=by
 refine codeAny_loop rfl I (fun n s hI=>?_) n h;show wpAny _ _ ((compTurn (.ListComp elt [⟨target,iter,ifs,0⟩] scope pos) 0 it acc env).onRaise (fun x=>do noteFrame x env;theTreesLotGoes x)) _ _ s;refine wpAny_noted ?_;rw [compTurn_list];refine wpAny_bind (wpAny_standAt (wpAny_bind (wpAny_mono (turn n s hI) (fun r s₁ h₁=>?_) fun _ _ h'=>h'.elim)))
 cases r with
 |none=>exact wpAny_pure h₁
 |some v=>
  refine wpAny_bind (wpAny_mono h₁ (fun _ s₅ h₅=>?_) fun _ _ h'=>h'.elim);refine wpAny_bind (wpAny_mono h₅ (fun _ s₂ h₂=>wpAny_bind (wpAny_mono h₂ (fun ok s₃ h₃=>?_) fun _ _ h'=>h'.elim)) fun _ _ h'=>h'.elim)
  cases ok with
  |true=>
   rw [if_pos rfl] at h₃;exact wpAny_bind (wpAny_bind (wpAny_mono h₃ (fun x s₃ h₃=>wpAny_bind (wpAny_mono h₃ (fun _ s₄ h₄=>wpAny_pure (wpAny_pure ⟨rfl,h₄⟩)) fun _ _ h'=>h'.elim)) fun _ _ h'=>h'.elim))
  |false=>rw [if_neg zq3] at h₃;exact wpAny_bind (wpAny_pure (wpAny_pure ⟨rfl,h₃⟩))
end
theorem gd{X:Cx}{elt iter tgt:Expr}{ifs:List Expr}{pos:Pos}{scope:Scope}{g:Bk->TG}{tt:Bk->TT}{te:Bk->TE}{tns cns:List Str}{ci:List Nat}{RR:Value->Addr->Result->Shared->Prop}{E:Value->Shared->Prop}
  {pins:List (Addr×Obj)} {σ:St} {H2:Hp} {s2:Shared} {it:Addr} {fp:List Addr} {tn:Nat->Heap->Prop} {J:It} {Q:Addr->Hp->Prop}
  (hc:X.calm=true) (S:CompSc X scope cns ci)
  (hg:∀bk:Bk,PG (X.blk (".0"::(tns++cns)) scope bk) tgt (g bk))
  (ht:∀bk:Bk,pZ (X.blk (".0"::(tns++cns)) scope bk) ifs (tt bk))
  (he:∀bk:Bk,PE (X.blk (".0"::(tns++cns)) scope bk) elt (te bk))
  (I2:Inv X pins σ H2 s2) (T:jo X.prog X.w X.K tgt J fp it tn) (st2:tn 0 s2.heap) (f2:∀b∈fp,gI X pins H2 b)
  (hcw:∀acc,H2 acc=none->∀bk:Bk,bP J (g bk) (tt bk) (te bk) tns.length ci σ acc (Q acc) (upd H2 acc (.lst [])))
  (fin:∀D C s5 H4 m,Inv X pins σ H4 s5->s5.heap.Ns C m->gI X pins H4 C->Q D H4->RR (.ref D) C (.ok .next) s5) :
  wpAny (model X.prog X.w) X.A (newList []) (fun acc s₃=>wpAny (model X.prog X.w) X.A (newFunctionEnv scope X.env.globals (cM X.env.cells scope.names []) [] X.env.qual none .none (some X.env)) (fun cenv s₄=>codeAny (model X.prog X.w) X.A (.compStart (.ListComp elt [⟨tgt,iter,ifs,0⟩] scope pos) 0 (.ref it) acc {cenv with scope:=relabel scope X.env}) (RR acc cenv.locals) s₄) E s₃) E s2:=by
 have hfc:∀y∈scope.names,y.2=.free->∃c,X.env.cells.lookup y.1=some c:=fun y hy hk=>I2.ok.has _ (S.free y hy hk);have hsub:∀y c,(cM X.env.cells scope.names []).lookup y=some c->X.env.cells.lookup y=some c:=fu hfc (fun y c e=>by simp at e);refine wpAny_newObj_type (wpAny_newFunctionEnv S.cell (by intro y hy;simp at hy) (fun h₁ hns₁ hsb₁=>?_) S.kind);dsimp only at hns₁ hsb₁ ⊢;generalize hH2:s2.heap.push {cls:=.type "list",dict:=none,data:=.seq ([]:List Value).toArray}=G2 at hns₁ hsb₁ ⊢;have hCz:G2.objs.size=s2.heap.objs.size+1:=by rw [<- hH2,rb]
 have hDC:s2.heap.objs.size≠G2.objs.size:=by rw [hCz];exact cA (rc _)
 have below:∀b,b<s2.heap.objs.size->b≠G2.objs.size:=fun b hb=>by omega
 have old:∀b o,s2.heap.get? b=some o->h₁.get? b=some o:=fun b o e=>hsb₁.extBut b o (below b (zq7 e)) (cw _ (hH2 ▸ cw _ e));have hacc:h₁.get? s2.heap.objs.size=some {cls:=.type "list",dict:=none,data:=.seq ([]:List Value).toArray}:=hsb₁.extBut _ _ hDC (cw _ (hH2 ▸ dM _ rfl));have hnD:H2 s2.heap.objs.size=none:=I2.hok.fresh (zq5 _);have hnC:H2 G2.objs.size=none:=I2.hok.fresh Jn;obtain ⟨W,⟨m0,w0⟩,turn⟩:=hcw s2.heap.objs.size hnD ⟨G2.objs.size,fp,s2,H2⟩;have nlt:∀{b:Addr} {o:Obj},s2.heap.get? b=some o->b≠s2.heap.objs.size:=fun q=>cA (zq7 q);have fpl:∀b∈fp,b<s2.heap.objs.size:=fun b hb=>by obtain ⟨o,e,_⟩:=T.obj _ _ st2 b hb;exact zq7 e
 have clt:∀y c,(cM X.env.cells scope.names []).lookup y=some c->c<s2.heap.objs.size:=fun y c e=>by obtain ⟨v,q⟩:=I2.cell y c (hsub y c e);exact q.lt
 have hasC:∀y,((relabel scope X.env).names.lookup y=some .cell\/(relabel scope X.env).names.lookup y=some .free)->∃c,(cM X.env.cells scope.names []).lookup y=some c:=fun y hk=>by
  rcases hk with z | z
  ·exact cY (cf z (.inl rfl) S.cell)
  ·exact cY (cf z (.inr rfl) S.cell)
 have ok:(X.blk (".0"::(tns++cns)) scope ⟨G2.objs.size,fp,s2,H2⟩).Ok:={
  mod:=I2.ok.mod
  kind:=S.kind
  glob:=I2.ok.glob
  blt:=I2.ok.blt
  above:=by show s2.heap.objs.size<=G2.objs.size;omega
  inj:=fun y z c e1 e2=>I2.ok.inj y z c (hsub y c e1) (hsub z c e2)
  has:=fun y hk=>hasC y hk
  cab:=fun y c e=>by
   have e':(false=true):=e
   cases e'
  hd:=I2.ok.hd
  frames:=I2.ok.frames
  stk:=.inl rfl
  exf:=fun b hb=>⟨below b (fpl b hb),fun y c e=>(f2 b hb).2.2.2.2.1 y c (hsub y c e)⟩
  bs:=I2.bs
  bsz:=eO I2.ok.bsz I2.sz
  noex:=fun b o e hb=>by
   rcases (f2 b hb).2.2.2.1 with z | z
   ·exact I2.ok.noex b o e z
   ·exact absurd (dJ (zq7 e) (eO I2.ok.bsz z)) (jZ _)
  exfs:=fun b hb hf=>by
   rcases zq1.mp (I2.stkSub b hf) with z | z
   ·exact (f2 b hb).2.1 z
   ·exact (f2 b hb).2.2.1 z
  funs:=I2.stack
  frf:=I2.stkFree}
 have hokD:HOk X.prog X.w (upd H2 s2.heap.objs.size (.lst [])) h₁:=I2.hok.laid old (zq5 _) ⟨ek _,zE ([]) 0 .nil hacc⟩;have clD:∀y c,(cM X.env.cells scope.names []).lookup y=some c->c≠s2.heap.objs.size:=fun y c e=>cA (clt y c e);have I3:Inv (X.blk (".0"::(tns++cns)) scope ⟨G2.objs.size,fp,s2,H2⟩) [] (aT (List.replicate tns.length none) ci σ) (upd H2 s2.heap.objs.size (.lst [])) {s2 with heap:=h₁,toks:=s2.toks+([]:List (Str×Value)).length}:={
  ok:=ok
  os:=rfl
  bare:=I2.bare
  base:=⟨fun b o e n _ _=>old b o e,fun b o e n _ _=>⟨o.slots,old b o e⟩,fun b o e n _=>by rw [aC (nlt e)];exact n,fun b o e _=>⟨o,old b o e⟩,
   fun b ys e=>by rw [aC (aw e hnD)];exact e,fun b o u e=>by rw [aC (aw e hnD)];exact e,fun b ps e=>⟨#[],by rw [aC (aw e hnD),Array.append_empty];exact e⟩⟩
  loc:=⟨_,hns₁,fun i y v e1 e2 e3=>by
   have e1':((".0":Str)::(tns++cns))[i]?=some y:=e1;unfold aT at e2
   cases i with
   |zero=>simp at e2
   |succ i=>
    rw [xO] at e1' e2
    by_cases hi:i<tns.length
    ·rw [vM (by simpa using hi),xK,if_pos hi] at e2
     cases e2
    ·rw [pR Jn] at e1';rw [pR (by simp;omega),xM] at e2;obtain ⟨q,hq,hN,hm⟩:=S.cap _ _ e1';rw [da,hq] at e2;have e2':(σ[q]?).join=some v:=by simpa using e2
     have e4:σ[q]?=some (some v):=by
      cases z:σ[q]? with
      |none=>rw [z] at e2';cases e2'
      |some o=>rw [z] at e2';rw [show o=some v from e2']
     obtain ⟨m,hns,hl⟩:=I2.loc;have hvis:Vis X.env.scope y:=by
      rcases S.free (y,.free) hm rfl with z | z
      ·exact .inr (.inl z)
      ·exact .inr (.inr z)
     obtain ⟨u,ru,lk⟩:=hl q y v hN e4 hvis;refine zA u ru (.inr ?_);have hkk:X.env.kindOf y=some .cell\/X.env.kindOf y=some .free:=S.free (y,.free) hm rfl;rcases lk with ⟨k1,_⟩ | ⟨_,c,hc1,hc2⟩
     ·rcases hkk with z | z<;>(rw [k1] at z;cases z)
     ·obtain ⟨c',hc'⟩:=cY (cells:=X.env.cells) (acc:=[]) hm;have ecc:c'=c:=by have:=hsub y c' hc';rw [hc1] at this;cases this;rfl
      subst ecc;have e3':Vis (relabel scope X.env) y:=e3;refine ⟨?_,zA c' hc' ?_⟩
      ·rcases e3' with z | z | z
       ·exfalso;exact S.noloc y hm z
       ·exact .inl z
       ·exact .inr z
      ·exact hc2.keeps old⟩
  cell:=fun y c e=>by obtain ⟨v,q⟩:=I2.cell y c (hsub y c e);exact ⟨v,q.keeps old⟩
  free:=by show upd H2 s2.heap.objs.size (.lst []) G2.objs.size=none;rw [aC (Ne.symm hDC)];exact hnC
  freeC:=fun y c e=>by rw [aC (clD y c e)];exact I2.freeC y c (hsub y c e)
  pin:=fun p hp=>by have hp':p∈([]:List (Addr×Obj))++[]:=hp;simp at hp'
  hok:=hokD
  len:=by show (aT _ ci σ).length=((".0":Str)::(tns++cns)).length;unfold aT;simp [S.len]}
 have st3:tn 0 h₁:=T.keep _ _ _ st2 fun b _ o e=>old b o e;have fr3:∀b∈fp,upd H2 s2.heap.objs.size (.lst []) b=none:=fun b hb=>by rw [aC (cA (fpl b hb))];exact (f2 b hb).1
 have stat:∀{H':Hp},(∀b∈fp,H' b=none)->∀b∈fp,gI (X.blk (".0"::(tns++cns)) scope ⟨G2.objs.size,fp,s2,H2⟩) [] H' b:=fun hn b hb=>zT (hn b hb) (below b (fpl b hb)) (ok.exfs b hb) (.inl hb) (fun y c e=>(f2 b hb).2.2.2.2.1 y c (hsub y c e)) fun p hp=>by have hp':p∈([]:List (Addr×Obj))++[]:=hp;simp at hp'
 have loop:∀s₃:Shared,s₃={s2 with heap:=h₁,toks:=s2.toks+([]:List (Str×Value)).length}->
   codeAny (model X.prog X.w) X.A (.compLoop (.ListComp elt [⟨tgt,iter,ifs,0⟩] scope pos) 0 (.ref it) (.ref s2.heap.objs.size) (compEnvC scope (cM X.env.cells scope.names []) G2.objs.size X.env))
    (RR (.ref s2.heap.objs.size) G2.objs.size) s₃:=by
  rintro s₃ rfl;refine gM (fun n s'=>∃(i:Nat)(os:List (Option V)) (ys:List V) (H':Hp),os.length=tns.length/\Inv (X.blk (".0"::(tns++cns)) scope ⟨G2.objs.size,fp,s2,H2⟩) [] (aT os ci σ) H' s'/\tn i s'.heap/\(∀b∈fp,H' b=none)/\W i n ys H') ?_ m0 (zX 0 _ ([]) _ Jo I3 st3 fr3 w0);rintro n s4 ⟨i,os,ys,H4,hos,I4,st4,fr4,w4⟩;rcases turn i n ys H4 w4 with ⟨stop,q⟩ | ⟨go,N,hN,step⟩
  ·refine thn (T.done (X.blk (".0"::(tns++cns)) scope ⟨G2.objs.size,fp,s2,H2⟩) rfl rfl rfl hc i [] s4 _ H4 (fun _ _=>False) I4 (stat fr4) st4 stop) fun r s5 ⟨hr,I5⟩=>?_;subst hr;obtain ⟨m,hm,_⟩:=I5.loc;have fC:H4 G2.objs.size=none:=I5.free;have ub:Un (frs X.stack) fp H2 H4 s2.heap s5.heap:=I5.base;have IX:Inv X pins σ H4 s5:=I2.call' (s':=s5) (show s5.os=s2.os from I5.os) ub I5.hok I5.bare fun b hb=>zH (f2 b hb).2.2.2.1 (f2 b hb).2.1 (f2 b hb).2.2.2.2.1 (f2 b hb).2.2.2.2.2
   exact fin _ _ s5 H4 m IX hm (I2.fpOk Jn fC) q
  ·refine thn (T.item (X.blk (".0"::(tns++cns)) scope ⟨G2.objs.size,fp,s2,H2⟩) rfl rfl rfl hc i [] s4 _ H4 (fun _ _=>False) I4 (stat fr4) st4 go) fun r s5 ⟨u,hr,h5⟩=>?_;subst hr;refine thn h5 fun _ s6 hhx=>?_;obtain ⟨y,H6,I6,r6,y6,st6,fr6⟩:=hhx;have I6':=I6.pinned (stat fr6) (T.obj _ _ st6);refine thn (hg _ _ s6 _ H6 y u _ I6' r6 (step y H6 os hos y6)) fun _ s7 ⟨σ7,H7,I7,⟨os',hos',e7⟩,q7⟩=>?_;subst e7;have back:∀{H9:Hp} {s9:Shared},Inv (X.blk (".0"::(tns++cns)) scope ⟨G2.objs.size,fp,s2,H2⟩) ([]++eF fp s6.heap) (aT os' ci σ) H9 s9->tn (i+1) s9.heap/\∀b∈fp,H9 b=none:=fun {H9 s9} I9=>⟨T.keep _ _ _ st6 fun b hb ob e=>(I9.pin (b,ob) (cx _ (cx _ (cr hb e)))).1,fun b hb=>by obtain ⟨ob,e,d⟩:=T.obj _ _ st6 b hb;exact (I9.pin (b,ob) (cx _ (cx _ (cr hb e)))).2.1⟩
   refine thn (ht _ _ s7 _ H7 _ I7 q7) fun b s8 hhx=>?_;obtain ⟨H8,I8,q8⟩:=hhx
   cases b with
   |false=>
    rw [if_neg zq3] at q8 ⊢;obtain ⟨m',hm',w8⟩:=hN _ _ q8;exact zA m' hm' (zX (i+1) os' ys _ hos' I8.unpinned (back I8).1 (back I8).2 w8)
   |true=>rw [if_pos rfl] at q8 ⊢;refine thn (he _ _ s8 _ H8 _ I8 q8) fun zv s8 hhx=>?_;obtain ⟨z,H8,I8,rz,ha8,hl8,n8⟩:=hhx;obtain ⟨m',hm',w8⟩:=hN _ _ n8;refine thn (b4 (X:=X.blk (".0"::(tns++cns)) scope ⟨G2.objs.size,fp,s2,H2⟩) _ s8 _ H8 (.ref s2.heap.objs.size) [z] (.ref s2.heap.objs.size) [zv] (fun _ H9=>H9=upd H8 s2.heap.objs.size (.lst (ys++[z]))) I8 rfl (.cons rz .nil) (zQ _ ys z rfl rfl ha8 hl8 rfl)) fun _ s9 hhx=>?_;obtain ⟨_,H9,I9,_,e9⟩:=hhx;subst e9;exact zA m' hm' (zX (i+1) os' (ys++[z]) _ hos' I9.unpinned (back I9).1 (back I9).2 w8)
 exact codeAny_compStart_list (loop _ rfl) (T.self _ 0 _ _ _ st3 (loop _ rfl))
theorem oC{X:Cx}{elt iter tgt:Expr}{ifs:List Expr}{pos:Pos}{scope:Scope}{wi:TI}{g:Bk->TG}{tt:Bk->TT}{te:Bk->TE}{tns cns:List Str}{ci:List Nat}(hc:X.calm=true)(S:CompSc X scope cns ci)(hi:PI X tgt iter wi)
  (hg:∀bk:Bk,PG (X.blk (".0"::(tns++cns)) scope bk) tgt (g bk))
  (ht:∀bk:Bk,pZ (X.blk (".0"::(tns++cns)) scope bk) ifs (tt bk))
  (he:∀bk:Bk,PE (X.blk (".0"::(tns++cns)) scope bk) elt (te bk))
  (hs:∀v,foldedSetIterable iter X.env v=pure v:=by intro _;rfl) :
  PE X (.ListComp elt [⟨tgt,iter,ifs,0⟩] scope pos) (jV wi g tt te tns.length ci):=by
 intro pins s σ H Q I h;have hfc:∀y∈scope.names,y.2=.free->∃c,X.env.cells.lookup y.1=some c:=fun y hy hk=>I.ok.has _ (S.free y hy hk);rw [eval_ListComp];refine wpAny_comprehension_free (use:=none) rfl hs (dA hfc) S.kind S.names (thn (hi pins s σ H _ I h) fun v s1 h1=>thn h1 fun itv s2 h2=>?_);obtain ⟨it,fp,tn,J,H2,rfl,I2,T,st2,f2,hcw⟩:=h2;refine gd (RR:=fun acc C=>compPost (model X.prog X.w) X.A X.xe none (EP X pins σ Q) acc C) hc S hg ht he I2 T st2 f2 hcw fun D C s5 H4 m I5 hm fo q=>?_;refine zA m hm fun h' hs'=>zB (.ref D) H4 ?_ rfl q;exact I5.turned (t':=s5.toks) (it:=C) (fun b o hb e=>(hs'.2 b hb).trans e) fo.1 fo.2.1 fo.2.2.2.1 fo.2.2.2.2.1 fo.2.2.2.2.2
def fH(i:Nat)(wi:TI)(g:Bk->TG)(tt:Bk->TT)(te:Bk->TE)(nt:Nat)(ci:List Nat):TS:=fun D σ H=>wi σ H fun J H1=>∀acc,H1 acc=none->∀bk:Bk,bP J (g bk) (tt bk) (te bk) nt ci σ acc (fun H'=>D.nx (σ.set i (some (.ref acc))) H') (upd H1 acc (.lst []))
theorem jN{X:Cx}{i:Nat}{x:Str}{px pos':Pos}{elt iter tgt:Expr}{ifs:List Expr}{pos:Pos}{scope:Scope}{wi:TI}{g:Bk->TG}{tt:Bk->TT}{te:Bk->TE}{tns cns:List Str}{ci:List Nat}
  (hN:X.N.Nodup) (hx:X.N[i]?=some x) (hl:Loc X.env.scope x) (hf:X.fn x=true) (hsw:swapsWith (.ListComp elt [⟨tgt,iter,ifs,0⟩] scope pos) (some (.Name x px)) pos'.line X.env=pure true)
  (hc:X.calm=true) (S:CompSc X scope cns ci) (hi:PI X tgt iter wi)
  (hg:∀bk:Bk,PG (X.blk (".0"::(tns++cns)) scope bk) tgt (g bk))
  (ht:∀bk:Bk,pZ (X.blk (".0"::(tns++cns)) scope bk) ifs (tt bk))
  (he:∀bk:Bk,PE (X.blk (".0"::(tns++cns)) scope bk) elt (te bk))
  (hs:∀v,foldedSetIterable iter X.env v=pure v:=by intro _;rfl) :
  PS X (.Assign [.Name x px] (.ListComp elt [⟨tgt,iter,ifs,0⟩] scope pos) pos') (fH i wi g tt te tns.length ci):=by
 intro pins s σ H D I h;have hfc:∀y∈scope.names,y.2=.free->∃c,X.env.cells.lookup y.1=some c:=fun y hy hk=>I.ok.has _ (S.free y hy hk);rw [exec_Assign_Name_used _ _ _ _ hsw];refine wpAny_bind (wpAny_standAt (wpAny_bind ?_));show wpAny _ _ (do let _ <- comprehension (.ListComp elt [⟨tgt,iter,ifs,0⟩] scope pos) scope X.env _ (newList []) false (eval iter X.env) (some (assign (.Name x px) X.env))) _ _ s;refine wpAny_bind (wpAny_mono (wpAny_comprehension_free (use:=some (assign (.Name x px) X.env)) (Q:=fun _ s'=>SP X pins D .next s') rfl hs (dA hfc) S.kind S.names
  (thn (hi pins s σ H _ I h) fun v s1 h1=>thn h1 fun itv s2 h2=>?_)) (fun _ s' hq=>wpAny_pure (wpAny_pure hq)) fun _ _ e=>e)
 obtain ⟨it,fp,tn,J,H2,rfl,I2,T,st2,f2,hcw⟩:=h2;refine gd (RR:=fun acc C=>compPost (model X.prog X.w) X.A X.xe (some (assign (.Name x px) X.env)) (fun _ s'=>SP X pins D .next s') acc C) hc S hg ht he I2 T st2 f2 hcw fun D' C s5 H4 m I5 hm fo q=>?_;obtain ⟨o,es,ep,ho,hd,hr⟩:=id hm;have IP:Inv X (pins++eF [C] s5.heap) σ H4 s5:=I5.pinned (fp:=[C]) (fun b hb=>by rw [zq9.mp hb];exact fo) fun b hb=>by rw [zq9.mp hb];exact zA o ho fun v z=>by rw [hd] at z;cases z
 show wpAny _ _ (assign (.Name x px) X.env (.ref D')) _ _ s5;refine thn (kS (X:=X) (i:=i) hN hx hl (.inl hf) _ s5 σ H4 (.ref D') (.ref D') (fun σ' H'=>σ'=σ.set i (some (.ref D'))/\H'=H4) IP rfl ⟨rfl,rfl⟩) fun _ s6 hhx=>?_;obtain ⟨σ6,H6,I6,e1,e2⟩:=hhx;subst e1 e2;have hC6:s6.heap.get? C=some o:=(I6.pin (C,o) (cx _ (cx _ (cr (zq9.mpr rfl) ho)))).1;refine zA m (zU o es ep hC6 hd hr) fun h' hs'=>zE _ _ ?_ q;exact I6.unpinned.turned (t':=s6.toks) (it:=C) (fun b o hb e=>(hs'.2 b hb).trans e) fo.1 fo.2.1 fo.2.2.2.1 fo.2.2.2.2.1 fo.2.2.2.2.2
def v8(scope osc:Scope):List (Str×NameKind):=scope.names.map fun (n,k)=>if (k==NameKind.free&&osc.kind==.function&&osc.names.lookup n==some .cell) then (n,NameKind.cell) else (n,k)
def gb(N:List Str)(names:List (Str×NameKind)):List Str->List Nat->Bool
 | [],[]=>true
 |x::xs,i::is=>N[i]?==some x&&names.any (fun y=>y.1==x&&y.2==.free)&&gb N names xs is
 |_,_=>false
def wa(osc:Scope)(N:List Str)(scope:Scope)(cns:List Str)(ci:List Nat):Bool:=
 scope.kind==.function&&scope.names.all (fun y=>y.2 != .cell)&&scope.names.all (fun y=>y.2 != .local || scope.names.lookup y.1==some .local) &&
 scope.names.all (fun y=>y.2 != .free || (osc.names.lookup y.1==some .cell || osc.names.lookup y.1==some .free))&&gb N scope.names cns ci &&
 scope.names.all (fun y=>y.2 != .free || (v8 scope osc).lookup y.1 != some .local)
theorem gc{N:List Str}{names:List (Str×NameKind)}:∀{cns:List Str} {ci:List Nat},gb N names cns ci=true->cns.length=ci.length/\∀(j:Nat)x,cns[j]?=some x->∃i,ci[j]?=some i/\N[i]?=some x/\(x,NameKind.free)∈names
 | [],[],_=>⟨rfl,fun j x e=>by simp at e⟩
 | [],_::_,h=>by simp [gb] at h
 |_::_,[],h=>by simp [gb] at h
 |x::xs,i::is,h=>by
  unfold gb at h;rw [cR,cR] at h;obtain ⟨⟨h1,h2⟩,h3⟩:=h;obtain ⟨l,r⟩:=gc h3;refine ⟨by simp [l],fun j y e=>?_⟩
  cases j with
  |zero=>
   have e':x=y:=by simpa using e
   subst e';refine zF i Jo (by simpa using h1) ?_;obtain ⟨z,hz,hq⟩:=List.any_eq_true.mp h2;rw [cR] at hq;obtain ⟨a,b⟩:=z;have e1:a=x:=by simpa using hq.1
   have e2:b=.free:=by simpa using hq.2
   subst e1 e2;exact hz
  |succ j=>obtain ⟨k,hk⟩:=r j y (by simpa using e);exact zA k (by simpa using hk.1) hk.2
theorem CompSc.of{X:Cx}{scope:Scope}{cns:List Str}{ci:List Nat}(h:wa X.env.scope X.N scope cns ci=true):CompSc X scope cns ci:=by
 unfold wa at h;rw [cR,cR,cR,cR,cR] at h;obtain ⟨⟨⟨⟨⟨h1,h2⟩,h3⟩,h4⟩,h5⟩,h6⟩:=h;obtain ⟨l,r⟩:=gc h5;refine ⟨by simpa using h1,fun y hy=>?_,fun y hy hk=>?_,fun y hy hk=>?_,r,l,fun y hy z=>?_⟩
 ·simpa using zq34.mp h2 y hy
 ·have:=zq34.mp h3 y hy;rw [pT] at this;rcases this with q | q
  ·exact absurd hk (by simpa using q)
  ·simpa using q
 ·have:=zq34.mp h4 y hy;rw [pT,pT] at this;rcases this with q | q | q
  ·exact absurd hk (by simpa using q)
  ·exact .inl (show X.env.scope.names.lookup y.1=_ by simpa using q)
  ·exact .inr (show X.env.scope.names.lookup y.1=_ by simpa using q)
 ·have:=zq34.mp h6 _ hy;rw [pT] at this;rcases this with q | q
  ·simp at q
  ·have z':(v8 scope X.env.scope).lookup y=some .local:=z;have q':((v8 scope X.env.scope).lookup y != some .local)=true:=q;rw [z'] at q';exact absurd q' Jm
section
variable {K:W.Frag} {g:TG} {tt:TT} {te:TE} {nt:Nat} {ci:List Nat} {σ:St} {acc:Addr} {Q:Hp->Prop} {H0:Hp}
theorem gL{a:Addr}{xs:List V}(Pv:Nat->List V->Hp->Prop)(h0:Pv 0 [] H0)(hl:∀i ys H,i<=xs.length->Pv i ys H->SqL K H a xs)
  (hs:∀(i:Nat)x ys H os,xs[i]?=some x->os.length=nt->Pv i ys H->g x (aT os ci σ) H fun σ1 H1=>(∃os',os'.length=nt/\σ1=aT os' ci σ)/\tt σ1 H1 fun b H2=>if b=true then te σ1 H2 fun z H3=>H3 acc=some (.lst ys)/\ys.length<sizeLine/\Pv (i+1) (ys++[z]) (upd H3 acc (.lst (ys++[z]))) else Pv (i+1) ys H2)
  (hd:∀ys H,Pv xs.length ys H->Q H):bP (Itl K a) g tt te nt ci σ acc Q H0:=by
 refine zA (fun i m ys H=>m=xs.length-i/\i<=xs.length/\Pv i ys H) (zF xs.length Jo (ek _) h0) ?_;rintro i m ys H ⟨rfl,hi,p⟩;have q:=hl i ys H hi p
 by_cases hlt:i<xs.length
 ·refine .inr ⟨zE xs (xs[i]) q (by simp [hlt]),zA (Pv (i+1)) (fun ys' H' p'=>zG (xs.length-(i+1)) Jn rfl hlt p') fun y H' os ho yl=>?_⟩;obtain ⟨rfl,yl⟩:=yl;exact hs i y ys H' os (yl xs q) ho p
 ·have e:i=xs.length:=by omega
  subst e;exact .inl ⟨zA xs q (zq5 _),hd ys H p⟩
theorem tO{a:Addr}{xs:List V}(Pv:Nat->List V->Hp->Prop)(h0:Pv 0 [] H0)(hl:∀i ys H,i<=xs.length->Pv i ys H->SqT K H a xs)
  (hs:∀(i:Nat)x ys H os,xs[i]?=some x->os.length=nt->Pv i ys H->g x (aT os ci σ) H fun σ1 H1=>(∃os',os'.length=nt/\σ1=aT os' ci σ)/\tt σ1 H1 fun b H2=>if b=true then te σ1 H2 fun z H3=>H3 acc=some (.lst ys)/\ys.length<sizeLine/\Pv (i+1) (ys++[z]) (upd H3 acc (.lst (ys++[z]))) else Pv (i+1) ys H2)
  (hd:∀ys H,Pv xs.length ys H->Q H):bP (Itt K a) g tt te nt ci σ acc Q H0:=by
 refine zA (fun i m ys H=>m=xs.length-i/\i<=xs.length/\Pv i ys H) (zF xs.length Jo (ek _) h0) ?_;rintro i m ys H ⟨rfl,hi,p⟩;have q:=hl i ys H hi p
 by_cases hlt:i<xs.length
 ·refine .inr ⟨zE xs (xs[i]) q (by simp [hlt]),zA (Pv (i+1)) (fun ys' H' p'=>zG (xs.length-(i+1)) Jn rfl hlt p') fun y H' os ho yl=>?_⟩;obtain ⟨rfl,yl⟩:=yl;exact hs i y ys H' os (yl xs q) ho p
 ·have e:i=xs.length:=by omega
  subst e;exact .inl ⟨zA xs q (zq5 _),hd ys H p⟩
end
end L2
namespace L2
def isiT:List String:=["int","bool","str","list","tuple","dict"]
inductive dy (K:W.Frag) (H:Hp):V->String->Prop where
 |non:dy K H .non "NoneType"
 |bl {b:Bool}:dy K H (.bl b) "bool"
 |int {i:Int}:dy K H (.int i) "int"
 |str {x:Str}:dy K H (.str x) "str"
 |lst {a:Addr} {xs:List V} (h:SqL K H a xs):dy K H (.ref a) "list"
 |tup {a:Addr} {xs:List V} (h:SqT K H a xs):dy K H (.ref a) "tuple"
 |dic {a:Addr} (h:IsD H a):dy K H (.ref a) "dict"
def gT(k T:String):Bool:=k==T || (k=="bool"&&T=="int")
def oO(K:W.Frag):List V->Hp->VK->Prop:=fun xs H Q=>∃x T k,xs=[x,.ty T]/\isiT.contains T=true/\dy K H x k/\Q (.bl (gT k T)) H
section
variable {X:Cx}
theorem bQ:c4 X (.builtin "isinstance") (oO X.K):=by
 intro pins s σ H xs us Q I r h;obtain ⟨x,T,k,rfl,hT,hk,q⟩:=h;obtain ⟨u,v,rfl,ru,rv⟩:=tH r
 cases rv
 have hT':T="int"\/T="bool"\/T="str"\/T="list"\/T="tuple"\/T="dict":=by simpa [isiT] using hT
 have fin:∀{b:Bool},b=gT k T->EP X pins σ Q (.bool b) s:=fun e=>zB (.bl _) H I rfl (by rw [e];exact q)
 have finT:∀{b:Bool},b=gT k T->EP X pins σ Q (.bool b) {s with toks:=s.toks+1}:=fun e=>zB (.bl _) H (I.tok _) rfl (by rw [e];exact q)
 cases hk with
 |non=>
  cases ru
  rcases hT' with rfl | rfl | rfl | rfl | rfl | rfl
  ·exact IsiPair.NoneType_int (finT Jk)
  ·exact IsiPair.NoneType_bool (finT Jk)
  ·exact IsiPair.NoneType_str (finT Jk)
  ·exact IsiPair.NoneType_list (finT Jk)
  ·exact IsiPair.NoneType_tuple (finT Jk)
  ·exact IsiPair.NoneType_dict (finT Jk)
 |bl=>
  cases ru
  rcases hT' with rfl | rfl | rfl | rfl | rfl | rfl
  ·exact IsiPair.bool_int (fin Jk)
  ·exact IsiPair.bool_bool (fin Jk)
  ·exact IsiPair.bool_str (finT Jk)
  ·exact IsiPair.bool_list (finT Jk)
  ·exact IsiPair.bool_tuple (finT Jk)
  ·exact IsiPair.bool_dict (finT Jk)
 |int=>
  obtain ⟨t,rfl⟩:=ru;rcases hT' with rfl | rfl | rfl | rfl | rfl | rfl
  ·exact IsiPair.int_int (fin Jk)
  ·exact IsiPair.int_bool (finT Jk)
  ·exact IsiPair.int_str (finT Jk)
  ·exact IsiPair.int_list (finT Jk)
  ·exact IsiPair.int_tuple (finT Jk)
  ·exact IsiPair.int_dict (finT Jk)
 |str=>
  obtain ⟨t,rfl⟩:=ru;rcases hT' with rfl | rfl | rfl | rfl | rfl | rfl
  ·exact IsiPair.str_int (finT Jk)
  ·exact IsiPair.str_bool (finT Jk)
  ·exact IsiPair.str_str (fin Jk)
  ·exact IsiPair.str_list (finT Jk)
  ·exact IsiPair.str_tuple (finT Jk)
  ·exact IsiPair.str_dict (finT Jk)
 |lst hl=>
  cases ru
  obtain ⟨its,_,⟨o,n,e,c,_⟩,_⟩:=I.list hl;rcases hT' with rfl | rfl | rfl | rfl | rfl | rfl
  ·exact IsiPair.list_int e c (finT Jk)
  ·exact IsiPair.list_bool e c (finT Jk)
  ·exact IsiPair.list_str e c (finT Jk)
  ·exact IsiPair.list_list e c (fin Jk)
  ·exact IsiPair.list_tuple e c (finT Jk)
  ·exact IsiPair.list_dict e c (finT Jk)
 |tup hl=>
  cases ru
  obtain ⟨its,_,⟨o,e,c,_⟩,_⟩:=I.tuple hl;rcases hT' with rfl | rfl | rfl | rfl | rfl | rfl
  ·exact IsiPair.tuple_int e c (finT Jk)
  ·exact IsiPair.tuple_bool e c (finT Jk)
  ·exact IsiPair.tuple_str e c (finT Jk)
  ·exact IsiPair.tuple_list e c (finT Jk)
  ·exact IsiPair.tuple_tuple e c (fin Jk)
  ·exact IsiPair.tuple_dict e c (finT Jk)
 |dic hl=>
  cases ru
  obtain ⟨o,e,c⟩:=(tR I hl).1;rcases hT' with rfl | rfl | rfl | rfl | rfl | rfl
  ·exact IsiPair.dict_int e c (finT Jk)
  ·exact IsiPair.dict_bool e c (finT Jk)
  ·exact IsiPair.dict_str e c (finT Jk)
  ·exact IsiPair.dict_list e c (finT Jk)
  ·exact IsiPair.dict_tuple e c (finT Jk)
  ·exact IsiPair.dict_dict e c (fin Jk)
end
section
variable {H:Hp} {Q:VK} {σ:St} {D:cy} {K:W.Frag}
theorem qH{wi:TI}{g:Bk->TG}{tt:Bk->TT}{te:Bk->TE}{nt:Nat}{ci:List Nat}:jV wi g tt te nt ci σ H Q=wi σ H fun J H1=>∀acc,H1 acc=none->∀bk:Bk,bP J (g bk) (tt bk) (te bk) nt ci σ acc (fun H'=>Q (.ref acc) H') (upd H1 acc (.lst [])):=rfl
theorem mq{i:Nat}{wi:TI}{g:Bk->TG}{tt:Bk->TT}{te:Bk->TE}{nt:Nat}{ci:List Nat}:fH i wi g tt te nt ci D σ H=wi σ H fun J H1=>∀acc,H1 acc=none->∀bk:Bk,bP J (g bk) (tt bk) (te bk) nt ci σ acc (fun H'=>D.nx (σ.set i (some (.ref acc))) H') (upd H1 acc (.lst [])):=rfl
theorem xo{Q:Bool->Hp->Prop}:mz σ H Q=Q true H:=rfl
end
end L2
namespace L2
variable {p:Addr} {x:V}
section
variable {H:Hp} {Q:VK} {σ:St} {D:cy} {K:W.Frag}
theorem x5:rIn K false x (.ref p) H Q=∃xs,(SqL K H p xs\/SqT K H p xs)/\cC x=true/\xs.all cC=true/\Q (.bl (inV x xs)) H:=propext ⟨by rintro ⟨_,xs,e1,h⟩;cases e1;exact ⟨xs,h⟩,by rintro ⟨xs,h⟩;exact zE _ xs rfl h⟩
end
theorem Paired.get{α β:Type}{F:α->β->Prop}:∀{l₁:List α} {l₂:List β} {i:Nat} {a:α},Paired F l₁ l₂->l₁[i]?=some a->∃b,l₂[i]?=some b/\F a b
 |_,_,_,_,.nil,e=>by simp at e
 |_,_,0,_,.cons h _,e=>by simp at e;subst e;exact zA _ rfl h
 |_,_,i+1,a,.cons _ t,e=>by obtain ⟨b,h1,h2⟩:=Paired.get (i:=i) (a:=a) t (by simpa using e);exact zA b (by simpa using h1) h2
theorem Paired.getR{α β:Type}{F:α->β->Prop}:∀{l₁:List α} {l₂:List β} {i:Nat} {b:β},Paired F l₁ l₂->l₂[i]?=some b->∃a,l₁[i]?=some a/\F a b
 |_,_,_,_,.nil,e=>by simp at e
 |_,_,0,_,.cons h _,e=>by simp at e;subst e;exact zA _ rfl h
 |_,_,i+1,b,.cons _ t,e=>by obtain ⟨a,h1,h2⟩:=Paired.getR (i:=i) (b:=b) t (by simpa using e);exact zA a (by simpa using h1) h2
theorem Same.updM{H0 H:Hp}{o:HO}(s:Same H0 H)(h:H0 p=none):Same H0 (L2.upd H p o):=fun b u e=>by rw [aC (aw e h)];exact s b u e
theorem Same.updN{H0 H:Hp}{o:HO}(s:Same H0 H)(h:H p=none):Same H0 (L2.upd H p o):=s.updM (s.free h)
theorem nF{b:Bool}{A B:Prop}(h1:b=true->A)(h2:b=false->B):if b=true then A else B:=by
 cases b
 ·rw [if_neg zq3];exact h2 rfl
 ·rw [if_pos rfl];exact h1 rfl
theorem tP{CX:CXT}{P:Program}{w:World}{K:W.Frag}{mg:Str->Option Value}{base:Heap}{N:List Str}{qual:Str}{scope:Scope}{f:Addr}{cd:Value}{A:Around}{outer:List Env}{s:Shared}{H:Hp}{E:XK}:(ju CX P w K mg base N qual scope f cd A outer s H E).K=K:=rfl
theorem vF{X:Cx}{E:Value->Shared->Prop}:(X.wish E).K=X.K:=rfl
theorem w9{X:Cx}{N':List Str}{scope:Scope}{b:Bk}:(X.blk N' scope b).K=X.K:=rfl
theorem ux{o:Option V}{ci:List Nat}{σ:St}:aT [o] ci σ=none::o::ci.map fun i=>(σ[i]?).join:=rfl
theorem uy{o o':Option V}{ci:List Nat}{σ:St}:aT [o,o'] ci σ=none::o::o'::ci.map fun i=>(σ[i]?).join:=rfl
theorem gQ{n:Str}:∀{ns:List Str},inV (.str n) (ns.map V.str)=decide (n∈ns)
 | []=>by simp [inV]
 |m::ns=>by
  have ih:=gQ (n:=n) (ns:=ns);unfold inV at ih ⊢;rw [cG,jh,ih];have e:eqV (.str m) (.str n)=decide (m=n):=by unfold eqV;rfl
  rw [e]
  by_cases h1:m=n
  ·subst h1;simp
  ·have h2:¬n=m:=fun z=>h1 z.symm;simp [h1,h2]
theorem gf:∀{ns:List Str},(ns.map V.str).all cC=true
 | []=>rfl
 |n::ns=>by rw [cG,rg,gf];rfl
section
variable {K:W.Frag} {tt:TT} {te:TE} {ci:List Nat} {σ:St} {acc:Addr} {Q:Hp->Prop} {H1:Hp} {a:Addr} {xs:List V}
theorem lU(p:V->Bool)(f:V->V){x:V}{ys:List V}{H:Hp}{os:List (Option V)}{i:Nat}{Pv:Nat->List V->Hp->Prop}(ho:os.length=1)(hi:xs[i]?=some x)
  (hp:∀Q',Q' (p x) H->tt (aT [some x] ci σ) H Q') (hf:∀Q',p x=true->Q' (f x) H->te (aT [some x] ci σ) H Q') (hacc:H acc=some (.lst ys)) (hlen:ys.length<sizeLine)
  (h1:p x=true->Pv (i+1) (ys++[f x]) (upd H acc (.lst (ys++[f x])))) (h2:p x=false->Pv (i+1) ys H) :
  bp 1 x (aT os ci σ) H fun σ1 H1=>(∃os',os'.length=1/\σ1=aT os' ci σ)/\tt σ1 H1 fun b H2=>if b=true then te σ1 H2 fun z H3=>H3 acc=some (.lst ys)/\ys.length<sizeLine/\Pv (i+1) (ys++[z]) (upd H3 acc (.lst (ys++[z]))) else Pv (i+1) ys H2:=by
 have e:(aT os ci σ).set 1 (some x)=aT [some x] ci σ:=by
  match os,ho with
  | [o],_=>rfl
 show (∃os',os'.length=1/\(aT os ci σ).set 1 (some x)=aT os' ci σ)/\tt ((aT os ci σ).set 1 (some x)) H _;rw [e];refine ⟨zA ([some x]) rfl rfl,hp _ ?_⟩
 cases hb:p x with
 |true=>rw [if_pos rfl];exact hf _ hb (zC hacc hlen (h1 hb))
 |false=>rw [if_neg zq3];exact h2 hb
theorem cV{p:V->Bool}{f:V->V}{xs:List V}{i:Nat}(hi:xs[i]?=some x):((xs.take (i+1)).filter p).map f=((xs.take i).filter p).map f++(if p x=true then [f x] else []):=by
 obtain ⟨h,e⟩:=zq19.mp hi;rw [fW h,e,List.filter_append,zq6];congr 1
 cases hb:p x<;>simp [hb]
theorem nj{p:V->Bool}{f:V->V}{xs:List V}{i:Nat}(hi:xs[i]?=some x)(hz:xs.length<=sizeLine):(((xs.take i).filter p).map f).length<sizeLine:=by obtain ⟨h,e⟩:=zq19.mp hi;rw [zq0];have:=List.length_filter_le p (xs.take i);rw [eP] at this;omega
theorem kn{J:It}(p:V->Bool)(f:V->V)(hz:xs.length<=sizeLine)(hacc:H1 acc=none)
 (hJ:∀(Pv:Nat->List V->Hp->Prop),Pv 0 [] (upd H1 acc (.lst []))->(∀i ys H,Pv i ys H->∃ys',H=upd H1 acc (.lst ys'))->
 (∀(i:Nat)x ys H os,xs[i]?=some x->os.length=1->Pv i ys H->bp 1 x (aT os ci σ) H fun σ1 H1=>(∃os',os'.length=1/\σ1=aT os' ci σ)/\tt σ1 H1 fun b H2=>
 if b=true then te σ1 H2 fun z H3=>H3 acc=some (.lst ys)/\ys.length<sizeLine/\Pv (i+1) (ys++[z]) (upd H3 acc (.lst (ys++[z]))) else Pv (i+1) ys H2)->
 (∀ys H,Pv xs.length ys H->Q H)->bP J (bp 1) tt te 1 ci σ acc Q (upd H1 acc (.lst [])))
 (hp:∀x∈xs,∀H Q',Same H1 H->Q' (p x) H->tt (aT [some x] ci σ) H Q') (hf:∀x∈xs,∀H Q',Same H1 H->p x=true->Q' (f x) H->te (aT [some x] ci σ) H Q')
 (q:Q (upd H1 acc (.lst ((xs.filter p).map f)))):bP J (bp 1) tt te 1 ci σ acc Q (upd H1 acc (.lst [])):=by
 refine hJ (fun i ys H=>ys=((xs.take i).filter p).map f/\H=upd H1 acc (.lst ys)) ⟨Jo,rfl⟩ (fun i ys H h=>⟨ys,h.2⟩) ?_ ?_
 ·rintro i x ys H os hi ho ⟨rfl,rfl⟩;have hm:=dN hi;refine lU (xs:=xs) (Pv:=fun i ys H=>ys=((xs.take i).filter p).map f/\H=upd H1 acc (.lst ys)) p f ho hi (fun Q' h=>hp x hm _ _ (Same.upd hacc) h) (fun Q' hb h=>hf x hm _ _ (Same.upd hacc) hb h) upd_same (nj hi hz) (fun hb=>?_) (fun hb=>?_)
  ·rw [cV hi,if_pos hb];exact ⟨rfl,by rw [du]⟩
  ·rw [cV hi,if_neg (by rw [hb];exact zq3),fU];exact ⟨rfl,rfl⟩
 ·rintro ys H ⟨rfl,rfl⟩;rw [f6];exact q
theorem mX(p:V->Bool)(f:V->V)(hz:xs.length<=sizeLine)(hl:SqL K H1 a xs)(hacc:H1 acc=none)
  (hp:∀x∈xs,∀H Q',Same H1 H->Q' (p x) H->tt (aT [some x] ci σ) H Q') (hf:∀x∈xs,∀H Q',Same H1 H->p x=true->Q' (f x) H->te (aT [some x] ci σ) H Q')
  (q:Q (upd H1 acc (.lst ((xs.filter p).map f)))):bP (Itl K a) (bp 1) tt te 1 ci σ acc Q (upd H1 acc (.lst [])):=
 kn p f hz hacc (fun Pv h0 hH hs hd=>gL Pv h0 (fun i ys H _ h=>by obtain ⟨ys',rfl⟩:=hH i ys H h;exact (Same.upd hacc).seq hl) hs hd) hp hf q
theorem mY(p:V->Bool)(f:V->V)(hz:xs.length<=sizeLine)(hl:SqT K H1 a xs)(hacc:H1 acc=none)
  (hp:∀x∈xs,∀H Q',Same H1 H->Q' (p x) H->tt (aT [some x] ci σ) H Q') (hf:∀x∈xs,∀H Q',Same H1 H->p x=true->Q' (f x) H->te (aT [some x] ci σ) H Q')
  (q:Q (upd H1 acc (.lst ((xs.filter p).map f)))):bP (Itt K a) (bp 1) tt te 1 ci σ acc Q (upd H1 acc (.lst [])):=
 kn p f hz hacc (fun Pv h0 hH hs hd=>tO Pv h0 (fun i ys H _ h=>by obtain ⟨ys',rfl⟩:=hH i ys H h;exact (Same.upd hacc).seqT hl) hs hd) hp hf q
end
end L2
end
namespace FB
open PySem L2
inductive Opd where
 |box (n:Str)
 |word (i:Int)
 deriving DecidableEq
def Opd.v:Opd->V
 | .box n=>.str n
 | .word i=>.int i
inductive Deed where
 |tell (a:Opd)
 |copy (d:Str) (a:Opd)
 |op (f d:Str) (a b:Opd)
 deriving DecidableEq
def opsL:List Str:=["plus","less","and","or","xor","below","same"]
def Deed.vs:Deed->List V
 | .tell a=>[.str "tell",a.v]
 | .copy d a=>[.str "copy",.str d,a.v]
 | .op f d a b=>[.str f,.str d,a.v,b.v]
def Deed.fine:Deed->Prop
 | .op f _ _ _=>f∈opsL
 |_=>True
end FB
section
open PySem PySem.Spec PyProof.Rows
namespace L2
section
variable {X:Cx}
theorem gD:∀{ns:List Str} {us:List Value},Vals (ns.map V.str) us->StrsAre us ns
 | [],_,r=>by cases r;exact .nil
 |n::ns,_,r=>by
  cases r with
  |cons r0 rr=>obtain ⟨t,rfl⟩:=r0;exact StrsAre.cons _ _ (gD rr)
def rF(K:W.Frag):V->List V->Hp->VK->Prop:=fun x vs H Q=>∃(z:Str)(p:Addr)(ys:List Str),x=.str z/\vs=[.ref p]/\SqL K H p (ys.map V.str)/\(ys.map (·.length)).sum+ys.length * z.length<=16777216/\Q (.str (Txt.join z ys)) H
theorem gW:MtR X "str.join" (rF X.K):=by
 intro pins s σ H x vs v us Q I rx rv h;obtain ⟨z,p,ys,rfl,rfl,hq,hz,q⟩:=h;obtain ⟨t,rfl⟩:=rx;obtain ⟨u,rfl,ru⟩:=rv.one
 cases ru
 obtain ⟨its,r,pl,_⟩:=I.list hq;exact join_list pl.isList (by simpa using gD r) hz fun t' k=>zB (.str _) H (I.tok _) ⟨_,rfl⟩ q
end
end L2
namespace L2
variable {H:Hp} {sc:Scope}
section
variable {X:Cx} {x:Str} {p pos:Pos} {e:Expr} {es:List Expr} {t:TA} {id T:String} {r:List V->Hp->VK->Prop}
theorem qv(i:Nat){x:Str}{pos:Pos}(hv:Vis X.env.scope x)(hN:X.N[i]?=some x:=by rfl)(hd:(x==("__debug__":Str))=false:=by kernel_rfl) (hcd:(x==("__classdict__":Str))=false:=by kernel_rfl):PE X (.Name x pos) (vB i):=ul hN hv hd hcd
theorem vl{x:Str}(h:sc.names.lookup x=some .local:=by kernel_rfl):Vis sc x:=.inl h
theorem ll{x:Str}(h:sc.names.lookup x=some .local:=by kernel_rfl):Loc sc x:=.inl h
theorem lc{x:Str}(h:sc.names.lookup x=some .cell:=by kernel_rfl):Loc sc x:=.inr h
theorem gl{X:Cx}{x:Str}(h:X.env.scope.names.lookup x=some .globalImplicit:=by kernel_rfl):Gl X x:=h
theorem gY{x:Str}(h:(x==("__name__":Str))=false:=by kernel_rfl):x≠"__name__":=fun z=>by subst z;exact absurd h Jk
theorem oK{k:Nat}{f:Addr}{fd:FuncData}{ps:List Str}{sp:Sp}{x:Str}{st:Stmt}{p pos:Pos}{e:Expr}{es:List Expr}{t:TA}(D:b7 X.K X.mg x st ps f fd)(G:FnOk X.prog X.w X.K X.mg X.base CX0 k f fd ps sp)(hr:Room k X.A)
  (ha:PA X (e::es) t) (hg:Gl X x) (hdb:(x==("__debug__":Str))=false:=by kernel_rfl) (he:starEach (e::es) X.env=(false,eval e X.env)::starEach es X.env:=by rfl) (hpl:(backTo pos (starEach es X.env)).any (·.1)=false:=by rfl) :
  PE X (.Call (.Name x p) (e::es) [] pos) (jd sp [] E0 t):=oB D G hr ha hg hdb he hpl
def jt:Expr->Option V
 | .Constant (.int i) _ _=>some (.int i)
 | .Constant (.str x) _ _=>some (.str x)
 | .Constant (.bool b) _ _=>some (.bl b)
 | .Constant .none _ _=>some .non
 |_=>none
def f9:List Expr->Option (List V)
 | []=>some []
 |e::es=>(jt e).bind fun v=>(f9 es).map fun vs=>v::vs
def tVs(vs:List V):TA:=fun _ H Q=>Q vs H
theorem lM{e:Expr}{v:V}(h:jt e=some v):PE X e (tC v)/\∀es,starEach (e::es) X.env=(false,eval e X.env)::starEach es X.env:=by
 unfold jt at h
 split at h
 ·cases h;exact ⟨oE,fun _=>rfl⟩
 ·cases h;exact ⟨oG,fun _=>rfl⟩
 ·cases h;exact ⟨rE,fun _=>rfl⟩
 ·cases h;exact ⟨uk,fun _=>rfl⟩
 ·cases h
theorem iR:∀{es:List Expr} {vs:List V},f9 es=some vs->PA X es (tVs vs)
 | [],_,h=>by cases h;exact oz
 |e::es,vs,h=>by unfold f9 at h;obtain ⟨v,h1,h2⟩:=Option.bind_eq_some_iff.mp h;obtain ⟨ws,h3,h4⟩:=zq42.mp h2;subst h4;obtain ⟨p1,p2⟩:=lM (X:=X) h1;exact kP p1 (iR h3) (p2 es)
theorem y9{vs:List V}{σ:St}{Z:List V->Hp->Prop}:tVs vs σ H Z=Z vs H:=rfl
theorem uO{z:Str}{p:Addr}{K:W.Frag}{Q:VK}:rF K (.str z) [.ref p] H Q=∃ys:List Str,SqL K H p (ys.map V.str)/\(ys.map (·.length)).sum+ys.length * z.length<=16777216/\Q (.str (Txt.join z ys)) H:=propext ⟨by rintro ⟨_,_,ys,e1,e2,h⟩;cases e1;cases e2;exact ⟨ys,h⟩,by rintro ⟨ys,h⟩;exact zU _ _ ys rfl rfl h⟩
theorem qR{z:Str}{K:W.Frag}:tyV K "str" (.str z) H=True:=eq_true (show ("str":String)="str" from rfl)
def vy(t u:TS):TS:=fun D σ H=>∃Mid:St->Hp->Prop,t {D with nx:=Mid} σ H/\∀σ' H',Mid σ' H'->u D σ' H'
theorem rK{ta tb:TS}{D:cy}{σ:St}:vy ta tb D σ H=∃Mid:St->Hp->Prop,ta {D with nx:=Mid} σ H/\∀σ' H',Mid σ' H'->tb D σ' H':=rfl
end
end L2
namespace L2
variable {dx:Addr}
structure KlsAt(K:W.Frag)(mg:Str->Option Value)(x:Str)(C:Addr):Prop where
 cl:Cls K C
 mks:W.makesIn K C=true
 kp:W.keepIn K (.ref C)=true
 M:mg x=some (.ref C)
structure bi(K:W.Frag)(C:Addr)(m qual:Str)(st:Stmt)(ps:List Str)(f:Addr)(fd:FuncData):Prop where
 F:Fun K m qual st f fd
 B:Binds K fd ps []
 M:lF K C m f
theorem KlsAt.make{K:W.Frag}{mg:Str->Option Value}{x qual:Str}{C f:Addr}{st:Stmt}{ps:List Str}{fd:FuncData}(c:KlsAt K mg x C)(m:bi K C "__init__" qual st ps f fd):Mk K C f:=⟨c.mks,m.M.at_,m.M.fn,c.kp⟩
section
variable {X:Cx} {k:Nat} {f C:Addr} {fd:FuncData} {ps:List Str} {sp:Sp} {x m qual:Str} {st:Stmt} {p pos apos:Pos} {e o:Expr} {es:List Expr} {ta:TE} {t:TA}
theorem oM(c:KlsAt X.K X.mg x C)(D:bi X.K C "__init__" qual st ps f fd) (G:FnOk X.prog X.w X.K X.mg X.base CX0 k f fd ps sp) (hr:Room (k+1) X.A)
  (ha:PA X (e::es) t) (hg:Gl X x) (hdb:(x==("__debug__":Str))=false:=by kernel_rfl) (he:starEach (e::es) X.env=(false,eval e X.env)::starEach es X.env:=by rfl) (hpl:(backTo pos (starEach es X.env)).any (·.1)=false:=by rfl) :
  PE X (.Call (.Name x p) (e::es) [] pos) (je C sp [] E0 t):=qE (c.make D) G hr hg c.M D.B .nil kQ ha hdb he hpl
theorem oN{pl:Sem Bool}(c:Cls X.K C)(D:bi X.K C m qual st ps f fd)(G:FnOk X.prog X.w X.K X.mg X.base CX0 k f fd ps sp)(hr:Room k X.A)(he:PE X o ta)(ha:PA X (e::es) t)
  (hst:starEach (e::es) X.env=(false,eval e X.env)::starEach es X.env:=by rfl) (hpl:(backTo pos (starEach es X.env)).any (·.1)=false:=by rfl)
  (ht:eval (.Call (.Attribute o m apos) (e::es) [] pos) X.env=(do
   let ov <- eval o X.env
   standAt apos.atName
   let (f,first) <- holding [ov] (getMethod ov m pl)
   callWith pos f first (backTo pos (starEach (e::es) X.env)) (backToKw pos (keywordEach [] X.env))):=by rfl) :
  PE X (.Call (.Attribute o m apos) (e::es) [] pos) (ei C m sp [] E0 ta t):=kR he c D.M G hr D.B .nil kQ ha hst hpl ht
theorem ml{pl:Sem Bool}(c:Cls X.K C)(D:bi X.K C m qual st ps f fd)(G:FnOk X.prog X.w X.K X.mg X.base CX0 k f fd ps sp)(hr:Room k X.A)(he:PE X o ta)
  (ht:eval (.Call (.Attribute o m apos) [] [] pos) X.env=(do
   let ov <- eval o X.env
   standAt apos.atName
   let (f,first) <- holding [ov] (getMethod ov m pl)
   callWith pos f first (backTo pos (starEach [] X.env)) (backToKw pos (keywordEach [] X.env))):=by rfl) :
  PE X (.Call (.Attribute o m apos) [] [] pos) (ei C m sp [] E0 ta my):=oF he c D.M G hr D.B .nil kQ ht
end
section
variable {H:Hp} {Q:VK} {σ:St} {D:cy} {K:W.Frag}
def mL(K:W.Frag)(x:V)(f:Str)(y:V)(H:Hp)(Z:Hp->Prop):Prop:=∃a C dx fs,x=.ref a/\H a=some (.ins C dx fs)/\Cls K C/\NoAttr K C f/\fs.length<1000/\Z (upd H a (.ins C dx (cu f y fs)))
def mK(K:W.Frag)(x:V)(f:Str)(H:Hp)(Q:VK):Prop:=∃a C dx fs v,x=.ref a/\H a=some (.ins C dx fs)/\Cls K C/\NoAttr K C f/\fs.lookup f=some v/\Q v H
def jm(C:Addr)(m:Str)(x:V)(H:Hp)(Z:Prop):Prop:=∃a dx fs,x=.ref a/\H a=some (.ins C dx fs)/\fs.lookup m=none/\Z
def w5(C:Addr)(sp:Sp)(vs:List V)(H:Hp)(Q:VK)(E:XK):Prop:=∀x dx,H x=none->H dx=none->dx≠x->sp (.ref x::vs) (upd (upd H dx (.own x)) x (.ins C dx [])) (fun v H2=>v=.non/\Q (.ref x) H2) E
theorem v6{ta tv:TE}{f:Str}:xp K ta tv f D σ H=tv σ H fun y H1=>ta σ H1 fun x H2=>mL K x f y H2 (D.nx σ):=rfl
theorem uK{ta:TE}{f:Str}:xv K ta f σ H Q=ta σ H fun x H1=>mK K x f H1 Q:=rfl
theorem uZ{C:Addr}{m:Str}{sp:Sp}{E:XK}{ta:TE}{t:TA}:ei C m sp [] E ta t σ H Q=ta σ H fun x H1=>jm C m x H1 (t σ H1 fun vs H2=>sp (x::vs) H2 Q E):=by unfold ei jm;simp only [List.append_nil]
theorem uY{C:Addr}{sp:Sp}{E:XK}{t:TA}:je C sp [] E t σ H Q=t σ H fun vs H1=>w5 C sp vs H1 Q E:=by unfold je w5;simp only [List.append_nil]
theorem eo{p C:Addr}{fs:List (Str×V)}{f:Str}{y:V}{Z:Hp->Prop}(e:H p=some (.ins C dx fs))(c:Cls K C)(n:NoAttr K C f)(l:fs.length<1000)(h:Z (upd H p (.ins C dx (cu f y fs)))):mL K (.ref p) f y H Z:=zL p C dx fs (zT rfl e c n l h)
theorem cn{p C:Addr}{fs:List (Str×V)}{f:Str}{v:V}(e:H p=some (.ins C dx fs))(c:Cls K C)(n:NoAttr K C f)(l:fs.lookup f=some v)(h:Q v H):mK K (.ref p) f H Q:=ze p C dx fs v rfl e c n l h
theorem aW{p C:Addr}{fs:List (Str×V)}{m:Str}{Z:Prop}(e:H p=some (.ins C dx fs))(l:fs.lookup m=none)(h:Z):jm C m (.ref p) H Z:=zK p dx fs rfl e l h
end
end L2
namespace L2
section
variable {K:W.Frag} {h:Heap} {mg:Str->Option Value}
abbrev fnS (x qual:Str) (st:Stmt) (kV doc pm:Value) (an:Option Addr) (cdv ct:Value):FuncData:=W.fnOf x qual (ce st) (bY st) (ax st) .none kV doc pm an cdv ct
abbrev jk (x qual:Str) (st:Stmt) (ps:List Str):Prop:=∀(kV doc pm:Value)(an:Option Addr)(cdv ct:Value)(us:List Value),us.length=ps.length->bindArgs (fnS x qual st kV doc pm an cdv ct) ⟨us,[]⟩=pure (ps.zip us)
theorem bW{x:Str}{st:Stmt}{ps:List Str}{f:Addr}{oc:Value}{od an:Option Addr}{osl:Array (Option Value)}{kV doc pm cdv ct:Value}(X:K.In h)(G:h.Ns mainGlobals mg)(a:W.nsIn K mainGlobals x=some (some (.ref f)))
  (l:K.lookup f=some ⟨oc,od,.func (W.fnOf x x (ce st) (bY st) (ax st) .none kV doc pm an cdv ct),osl⟩) (c:W.codeIn K cdv x=true) (k:W.keepIn K (.ref f)=true) (b:jk x x st ps):b7 K mg x st ps f (W.fnOf x x (ce st) (bY st) (ax st) .none kV doc pm an cdv ct):=
 ⟨gO l c k,(gO l c k).binds b,W.mg_of X G a⟩
theorem eA{C:Addr}{x qual:Str}{st:Stmt}{ps:List Str}{f:Addr}{oc:Value}{od an:Option Addr}{osl:Array (Option Value)}{kV doc pm cdv ct:Value}(a:W.findIn K (.ref C) x=some (some (.ref f)))(i:W.isFn K (.ref f)=true)
  (l:K.lookup f=some ⟨oc,od,.func (W.fnOf x qual (ce st) (bY st) (ax st) .none kV doc pm an cdv ct),osl⟩) (c:W.codeIn K cdv qual=true) (k:W.keepIn K (.ref f)=true) (b:jk x qual st ps):bi K C x qual st ps f (W.fnOf x qual (ce st) (bY st) (ax st) .none kV doc pm an cdv ct):=
 ⟨gO l c k,(gO l c k).binds b,⟨a,i,k⟩⟩
theorem wb{x:Str}{C:Addr}(X:K.In h)(G:h.Ns mainGlobals mg)(a:W.nsIn K mainGlobals x=some (some (.ref C)))(h1:W.plainGet K C Str.empty=true)(h2:W.hasDictIn K C=true)(h3:W.plainOver K C=true)
  (h4:W.findIn K (.ref C) "__setattr__"=some (some (.builtin "object.__setattr__"))) (h5:W.makesIn K C=true) (h6:W.keepIn K (.ref C)=true):KlsAt K mg x C:=⟨⟨h1,h2,h3,h4⟩,h5,h6,W.mg_of X G a⟩
end
section
variable {x qual p q r s t u:Str} {st:Stmt}
theorem bn1(h:∀kV doc pm an cdv ct a,bindArgs (fnS x qual st kV doc pm an cdv ct) ⟨[a],[]⟩=pure [(p,a)]):jk x qual st [p]:=fun kV doc pm an cdv ct us hl=>by
 match us,hl with
 | [a],_=>exact h kV doc pm an cdv ct a
theorem bn2(h:∀kV doc pm an cdv ct a b,bindArgs (fnS x qual st kV doc pm an cdv ct) ⟨[a,b],[]⟩=pure [(p,a),(q,b)]):jk x qual st [p,q]:=fun kV doc pm an cdv ct us hl=>by
 match us,hl with
 | [a,b],_=>exact h kV doc pm an cdv ct a b
theorem bn3(h:∀kV doc pm an cdv ct a b c,bindArgs (fnS x qual st kV doc pm an cdv ct) ⟨[a,b,c],[]⟩=pure [(p,a),(q,b),(r,c)]):jk x qual st [p,q,r]:=fun kV doc pm an cdv ct us hl=>by
 match us,hl with
 | [a,b,c],_=>exact h kV doc pm an cdv ct a b c
theorem bn4(h:∀kV doc pm an cdv ct a b c d,bindArgs (fnS x qual st kV doc pm an cdv ct) ⟨[a,b,c,d],[]⟩=pure [(p,a),(q,b),(r,c),(s,d)]):jk x qual st [p,q,r,s]:=fun kV doc pm an cdv ct us hl=>by
 match us,hl with
 | [a,b,c,d],_=>exact h kV doc pm an cdv ct a b c d
theorem bn5(h:∀kV doc pm an cdv ct a b c d e,bindArgs (fnS x qual st kV doc pm an cdv ct) ⟨[a,b,c,d,e],[]⟩=pure [(p,a),(q,b),(r,c),(s,d),(t,e)]):jk x qual st [p,q,r,s,t]:=fun kV doc pm an cdv ct us hl=>by
 match us,hl with
 | [a,b,c,d,e],_=>exact h kV doc pm an cdv ct a b c d e
end
end L2
namespace L2
section
variable {X:Cx}
end
end L2
namespace L2
section
variable {X:Cx}
theorem iq:∀{bs:List Bool} {its:List Value},Vals (bs.map V.bl) its->its=bs.map Value.bool
 | [],_,.nil=>rfl
 |b::bs,_,.cons h t=>by have e:_=Value.bool b:=h;rw [e,iq t];rfl
theorem mr{bs:List Bool}:(List.range bs.length).all (fun i=>bs.getD i true)=bs.all id:=by
 rw [jg,zq34,zq34]
 constructor
 ·intro h b hb;obtain ⟨i,hi,rfl⟩:=List.mem_iff_getElem.mp hb;have:=h i (zq49.mpr hi);rw [pU,dc hi] at this;exact this
 ·intro h i hi;have hi:=zq49.mp hi;rw [pU,dc hi];exact h _ (k8 hi)
def wC(K:W.Frag):List V->Hp->VK->Prop:=fun xs H Q=>∃(a:Addr)(bs:List Bool),xs=[.ref a]/\SqL K H a (bs.map V.bl)/\Q (.bl (bs.all id)) H
theorem jf{P:Program}{w:World}{A:Around}{bs:List Bool}:TruthOf P w A (fun i v=>(bs.map Value.bool).toArray[i]?=some v) (fun i=>bs.getD i true):=by intro i v s Q E hv q;rw [xP,da] at hv;obtain ⟨b,hb,rfl⟩:=zq42.mp hv;replace q:Q (bs.getD i true) s:=q;rw [pU,hb] at q;exact wpAny_truthy_bool q
theorem ir(hc:X.calm=true):c4 X (.builtin "all") (wC X.K):=by
 intro pins s σ H xs us Q I r h;obtain ⟨a,bs,rfl,hq,q⟩:=h;obtain ⟨u,rfl,ru⟩:=cW r
 cases ru
 obtain ⟨its,rv,pl,_⟩:=I.list hq;obtain rfl:=iq rv;obtain ⟨o,ho,ro⟩:=pl.isList;have W:=Walks.list (prog:=X.prog) (w:=X.w) (A:=X.A.in1) (I.ok.hd hc) s.heap.objs.size a (cA (zq7 ho)) (bs.map Value.bool).toArray;refine call_all_walk (wpAny_pyIter_list pl.isList (zt s.heap.objs.size _ _ _ _ _ (fun i=>bs.getD i true) (zJ rfl W ⟨zF _ (dM _ rfl) rfl rfl,pl.isList.push _⟩ jf fun h' tk hk=>?_)));have e:(bs.map Value.bool).toArray.size=bs.length:=by simp
 rw [e,mr];exact zB (.bl _) H (I.kept (t':=tk) fun b ob hb=>hk b ob (fun z=>jZ _ (by have:=zq7 hb;rw [zq9.mp z] at this;exact this)) (cw _ hb)) rfl q
end
end L2
namespace L2
open AutoSeq1 (wpAny_loadPart')
section
variable {prog:Program} {w:World} {A:Around} {E:Value->Shared->Prop} {s:Shared}
end
end L2
namespace L2
section
variable {prog:Program} {w:World} {A:Around} {E:Value->Shared->Prop} {s:Shared}
end
end L2
namespace L2
section
variable {g:TG} {tb:TS} {D:cy} {σ:St} {H:Hp}
end
end L2
namespace L2
section
variable {prog:Program} {w:World} {A:Around} {E:Value->Shared->Prop} {s:Shared}
end
end L2
namespace L2
section
variable {X:Cx}
end
end L2
namespace L2
end L2
namespace L2
variable {X:Cx} {a b c e iter o tg:Expr} {apos p pos pos':Pos} {es:List Expr} {f:Addr} {i k:Nat} {ps:List Str} {qual x:Str} {sp:Sp} {t:TA} {tA:TT} {ta te:TE} {wi:TI}
structure XE(X:Cx)(e:Expr)(t:TE):Prop where
 h:PE X e t
structure XT(X:Cx)(e:Expr)(t:TT):Prop where
 h:PT X e t
structure XW(X:Cx)(e:Expr)(t:TT):Prop where
 h:PW X e t
structure XA(X:Cx)(es:List Expr)(t:TA):Prop where
 h:PA X es t
structure XS(X:Cx)(st:Stmt)(t:TS):Prop where
 h:PS X st t
structure XSs(X:Cx)(st:List Stmt)(t:TS):Prop where
 h:PSs X st t
structure XG(X:Cx)(target:Expr)(t:TG):Prop where
 h:PG X target t
structure XGs(X:Cx)(ts:List Expr)(t:TGs):Prop where
 h:PGs X ts t
structure XI(X:Cx)(tg iter:Expr)(wi:TI):Prop where
 h:PI X tg iter wi
structure XO(X:Cx)(e:Option Expr)(t:TO):Prop where
 h:PO X e t
structure tK(X:Cx)(ifs:List Expr)(t:TT):Prop where
 h:pZ X ifs t
theorem ac{i j pos}:XE X (.Constant (.int i) j pos) (tC (.int i)):=⟨oE⟩
theorem bT{b j pos}:XE X (.Constant (.bool b) j pos) (tC (.bl b)):=⟨rE⟩
theorem aq{x j pos}:XE X (.Constant (.str x) j pos) (tC (.str x)):=⟨oG⟩
theorem aj{tb:TE}{op:Operator}{r:R2}(ho:OpR X (binaryOp op) r)(ha:XE X a ta)(hb:XE X b tb):XE X (.BinOp a op b pos) (tOp r ta tb):=⟨by intro pins s σ H Q I h;exact wpAny_BinOp (tN ha.h hb.h I h fun v u s2 x y H2 I2 rx ry q=>ho pins s2 σ H2 x y v u Q I2 rx ry q)⟩
theorem pN{op:UnaryOp}{r:V->Hp->VK->Prop}(ho:UnR X (unaryOp op) r)(ha:XE X a ta):XE X (.UnaryOp op a pos) (tUn r ta):=⟨by intro pins s σ H Q I h;exact UnaryOp_ (thn (ha.h pins s σ H _ I h) fun v s1 ⟨x,H1,I1,r1,q1⟩=>ho pins s1 σ H1 x v Q I1 r1 q1)⟩
theorem cv{tb:TE}{op:CmpOp}{r:R2}(ho:OpR X (compareOp op) r)(ha:XE X a ta)(hb:XE X b tb)(hm:behindInMarks op b=false):XE X (.Compare a [op] [b] pos) (tOp r ta tb):=⟨by intro pins s σ H Q I h;exact wpAny_Compare1 (tN ha.h hb.h I h fun v u s2 x y H2 I2 rx ry q=>ho pins s2 σ H2 x y v u Q I2 rx ry q) hm⟩
theorem mD{tb tc:TE}{op op':CmpOp}{r r':R2}(ho:OpR X (compareOp op) r)(ho':OpR X (compareOp op') r')(ha:XE X a ta)(hb:XE X b tb)(hc:XE X c tc)(hm:lastMarks [op,op'] [b,c]=false:=by with_unfolding_all rfl):XE X (.Compare a [op,op'] [b,c] pos) (i4 r r' ta tb tc):=⟨by
 intro pins s σ H Q I h;refine Compare_chain (thn (ha.h pins s σ H _ I h) fun v s1 ⟨x,H1,I1,r1,q1⟩=>chain_link (thn (hb.h pins s1 σ H1 _ I1 q1) fun u s2 ⟨y,H2,I2,r2,q2⟩=>thn (ho pins s2 σ H2 x y v u _ I2 r1 r2 q2) fun d s3 ⟨z,H3,I3,r3,k,e,q3⟩=>?_)) hm
 subst e
 cases r3
 refine wpAny_truthy_bool ?_
 cases k with
 |false=>exact ite_ff (zB (.bl false) H3 I3 rfl q3)
 |true=>exact ite_tt (chain_last (thn (hc.h pins s3 σ H3 _ I3 q3) fun w' s4 ⟨z',H4,I4,r4,q4⟩=>ho' pins s4 σ H4 y z' u w' Q I4 r2 r4 q4))⟩
theorem fj{b:Expr}{tb:TE}{rest:List Expr}(ha:XE X a ta)(hb:XE X (.BoolOp .And (b::rest) pos) tb):XE X (.BoolOp .And (a::b::rest) pos) (tw ta tb):=⟨by
 intro pins s σ H Q I h;refine BoolOp_and (thn (ha.h pins s σ H _ I h) fun v s1 hhx=>?_);obtain ⟨x,H1,I1,r1,q1⟩:=hhx;obtain ⟨c,rfl,q1⟩:=q1
 cases r1
 refine wpAny_truthy_bool ?_
 cases c with
 |true=>exact hb.h pins s1 σ H1 Q I1 q1
 |false=>exact zB (.bl false) H1 I1 rfl q1⟩
theorem vG{b:Expr}{tb:TE}{rest:List Expr}(ha:XE X a ta)(hb:XE X (.BoolOp .Or (b::rest) pos) tb):XE X (.BoolOp .Or (a::b::rest) pos) (xA ta tb):=⟨by
 intro pins s σ H Q I h;refine BoolOp_or (thn (ha.h pins s σ H _ I h) fun v s1 hhx=>?_);obtain ⟨x,H1,I1,r1,q1⟩:=hhx;obtain ⟨c,rfl,q1⟩:=q1
 cases r1
 refine wpAny_truthy_bool ?_
 cases c with
 |false=>exact hb.h pins s1 σ H1 Q I1 q1
 |true=>exact zB (.bl true) H1 I1 rfl q1⟩
theorem fm{op}{t:TE}(h:XE X a t):XE X (.BoolOp op [a] pos) t:=⟨fun pins s σ H Q I hw=>BoolOp_one (h.h pins s σ H Q I hw)⟩
theorem qX(ha:XE X a ta):XE X (.UnaryOp .Not a pos) (tF ta):=⟨by
 intro pins s σ H Q I h;refine UnaryOp_ (thn (ha.h pins s σ H _ I h) fun v s1 hhx=>?_);obtain ⟨x,H1,I1,r1,q1⟩:=hhx;obtain ⟨c,rfl,q1⟩:=q1
 cases r1
 exact not_of (wpAny_truthy_bool (zB (.bl (!c)) H1 I1 rfl q1))⟩
theorem gF{tb:TE}(hc:XT X c tA)(ha:XE X a ta)(hb:XE X b tb):XE X (.IfExp c a b pos) (tIf tA ta tb):=⟨by
 intro pins s σ H Q I h;refine wpAny_IfExp (thn (hc.h pins s σ H _ I h) fun d s1 hhx=>?_);obtain ⟨H1,I1,q1⟩:=hhx
 cases d with
 |true=>exact ha.h pins s1 σ H1 Q I1 q1
 |false=>exact hb.h pins s1 σ H1 Q I1 q1⟩
theorem aI(h:XA X es t):XE X (.List es pos) (xx t):=⟨by intro pins s σ H Q I hq;refine wpAny_List_spliced (thn (h.h pos pins s σ H _ I hq) fun us s1 ⟨xs,H1,I1,r,z,q⟩=>⟨by rw [<- r.length];exact z,?_⟩);have hf:H1 s1.heap.objs.size=none:=I1.hok.fresh (zq5 _);refine zB (.ref s1.heap.objs.size) (upd H1 s1.heap.objs.size (.lst xs)) (I1.laid (t':=s1.toks) (fun b u e=>cw _ e) (zq5 _) ?_) rfl (q _ hf);exact ⟨z,zE us 0 r (dM _ rfl)⟩⟩
theorem aX{x1}(h:XA X es t):XE X (.Tuple es x1 pos) (xC t):=⟨by intro pins s σ H Q I hq;refine wpAny_Tuple_spliced (thn (h.h pos pins s σ H _ I hq) fun us s1 ⟨xs,H1,I1,r,z,q⟩=>⟨by rw [<- r.length];exact z,?_⟩);have hf:H1 s1.heap.objs.size=none:=I1.hok.fresh (zq5 _);refine zB (.ref s1.heap.objs.size) (upd H1 s1.heap.objs.size (.tup xs)) (I1.laid (t':=s1.toks) (fun b u e=>cw _ e) (zq5 _) ?_) rfl (q _ hf);exact ⟨z,zA us r (zF _ (dM _ rfl) rfl ⟨_,rfl⟩)⟩⟩
theorem av{e:Expr}{id:String}{r:List V->Hp->VK->Prop}(hc:c4 X (.builtin id) r)(hg:Gl X x)(hm:X.mg x=none)(hv:bootBuiltins x=some (.builtin id))(ha:XA X (e::es) t)(hn:(x==("__name__":Str))=false:=by kernel_rfl) (hdb:(x==("__debug__":Str))=false:=by kernel_rfl) (he:starEach (e::es) X.env=(false,eval e X.env)::starEach es X.env:=by rfl) (hpl:(backTo pos (starEach es X.env)).any (·.1)=false:=by rfl):XE X (.Call (.Name x p) (e::es) [] pos) (tCB r t):=⟨oA hc hg hm hv ha.h (gY hn) hdb he hpl⟩
theorem aN{e:Expr}{T:String}{r:List V->Hp->VK->Prop}(hc:c4 X (.type T) r)(hg:Gl X x)(hm:X.mg x=none)(hv:bootBuiltins x=some (.type T))(ha:XA X (e::es) t)(hn:(x==("__name__":Str))=false:=by kernel_rfl) (hdb:(x==("__debug__":Str))=false:=by kernel_rfl) (he:starEach (e::es) X.env=(false,eval e X.env)::starEach es X.env:=by rfl) (hpl:(backTo pos (starEach es X.env)).any (·.1)=false:=by rfl):XE X (.Call (.Name x p) (e::es) [] pos) (tCB r t):=⟨mh hc hg hm hv ha.h (gY hn) hdb he hpl⟩
theorem ap{fd:FuncData}{st:Stmt}{e:Expr}(D:b7 X.K X.mg x st ps f fd)(G:FnOk X.prog X.w X.K X.mg X.base CX0 k f fd ps sp)(hr:Room k X.A)(ha:XA X (e::es) t)(hg:Gl X x)(hdb:(x==("__debug__":Str))=false:=by kernel_rfl) (he:starEach (e::es) X.env=(false,eval e X.env)::starEach es X.env:=by rfl) (hpl:(backTo pos (starEach es X.env)).any (·.1)=false:=by rfl):XE X (.Call (.Name x p) (e::es) [] pos) (jd sp [] E0 t):=⟨oK D G hr ha.h hg hdb he hpl⟩
theorem bv{e:Expr}{to:TE}{name:Str}{cpos:Pos}{T id:String}{r:V->List V->Hp->VK->Prop}(pa:PlainAttrs T)(slot:Slot T name id)(hty:typeOf (.builtin id)=pure (.type "method_descriptor")) (hm:MtR X id r) (ho:XE X o to) (ha:XA X (e::es) t) (hbase:attributeBase o name X.env (eval o X.env)=eval o X.env:=by rfl) (hfew:((backTo cpos (starEach (e::es) X.env)).all (fun x=>!x.1)&&(backToKw cpos (keywordEach [] X.env)).all (fun x=>x.1.isSome)
 && decide ((e::es).length+([]:List Keyword).length+(if ([]:List Keyword).isEmpty then 0 else 1)<30))=true:=by rfl) (hline:(apos.endLine==cpos.line)=true:=by rfl) (hs:starEach (e::es) X.env=(false,eval e X.env)::starEach es X.env:=by rfl) (hplain:(backTo cpos (starEach es X.env)).any (·.1)=false:=by rfl):XE X (.Call (.Attribute o name apos) (e::es) [] cpos) (tBM X.K T r to t):=⟨wB pa slot hty hm ho.h ha.h hbase hfew hline hs hplain⟩
theorem fk{to:TE}{name:Str}{cpos:Pos}{T id:String}{r:V->List V->Hp->VK->Prop}(pa:PlainAttrs T)(slot:Slot T name id)(hty:typeOf (.builtin id)=pure (.type "method_descriptor")) (hm:MtR X id r) (ho:XE X o to) (hbase:attributeBase o name X.env (eval o X.env)=eval o X.env:=by rfl) (hline:(apos.endLine==cpos.line)=true:=by rfl):XE X (.Call (.Attribute o name apos) [] [] cpos) (xu X.K T r to):=⟨by intro pins s σ H Q I h;refine wpAny_Call_method0_late hbase hline (thn (ho.h pins s σ H _ I h) fun v s1 hhx=>?_);obtain ⟨x,H1,I1,r1,ty,q1⟩:=hhx;obtain ⟨h1,h2⟩:=pK I1 r1 ty;exact zZ T id pa slot hty h1 h2 (Calls.callWith_builtin rfl (PySem.evalArgs_none (hm pins s1 σ H1 x [] v [] Q I1 r1 .nil q1)))⟩
theorem bO{lo hi:Option Expr}{tl th:TO}{p2:Pos}{r:V->Option Int->Option Int->Hp->VK->Prop}(hr:SlR X r)(he:XE X e te)(hl:XO X lo tl)(hu:XO X hi th):XE X (.Subscript e (.Slice lo hi none p2) pos) (tSl r te tl th):=⟨by intro pins s σ H Q I h;refine Subscript_ (thn (he.h pins s σ H _ I h) fun v s1 hhx=>?_);obtain ⟨x,H1,I1,r1,q1⟩:=hhx;refine wpAny_Slice (thn (hl.h pins s1 σ H1 _ I1 q1) fun vl s2 ⟨l,H2,I2,pl,q2⟩=>thn (hu.h pins s2 σ H2 _ I2 q2) fun vu s3 hhx=>?_);obtain ⟨u,H3,I3,pu,q3⟩:=hhx;rw [evalPart_none];refine wpAny_pure ?_;have I4:Inv X pins σ H3 {s3 with heap:=s3.heap.push {cls:=.type "slice",data:=.fields #[vl,vu,.none]}}:=I3.kept (t':=s3.toks) fun b ob q=>cw _ q;obtain ⟨T,id,hT,ht,hg⟩:=hr pins {s3 with heap:=s3.heap.push {cls:=.type "slice",data:=.fields #[vl,vu,.none]}} σ H3 x v vl vu l u s3.heap.objs.size Q I4 r1 (Heap.IsSliceOf.new ..) pl pu q3;show wpAny (model X.prog X.w) X.A (subscriptTail e (.Slice lo hi none p2) v (.ref s3.heap.objs.size)) (EP X pins σ Q) X.xe {s3 with heap:=s3.heap.push {cls:=.type "slice",data:=.fields #[vl,vu,.none]}};exact tail_any (ops:=[.ref s3.heap.objs.size,v]) ht hT hg (by with_unfolding_all rfl)⟩
theorem am{tb:TE}{r:R2}(hr:IxR X r)(ha:XE X a ta)(hb:XE X b tb)(hs:q9 b:=by intro _ _;rfl):XE X (.Subscript a b pos) (tOp r ta tb):=⟨by intro pins s σ H Q I h;exact Subscript_ (tN ha.h hb.h I h fun v u s2 x y H2 I2 rx ry q=>hr a b pins s2 σ H2 x y v u Q I2 rx ry q (hs _ _))⟩
theorem aU{f:Str}(he:XE X e ta)(hb:attributeBase e f X.env (eval e X.env)=eval e X.env):XE X (.Attribute e f pos) (xv X.K ta f):=⟨by intro pins s σ H Q I h;refine qb hb (thn (he.h pins s σ H _ I h) fun u s1 hhx=>?_);obtain ⟨x,H1,I1,rx,a,C,dx,fs,v,ex,ea,c,n,l,q⟩:=hhx;subst ex;obtain rfl:u=Value.ref a:=rx;exact jw I1 ea c n l fun u' s2 I2 ru=>zB v H1 I2 ru q⟩
theorem bX{elt tgt:Expr}{ifs:List Expr}{scope:Scope}{g:Bk->TG}{tt:Bk->TT}{te:Bk->TE}{tns cns:List Str}{ci:List Nat}(hc:X.calm=true)(S:CompSc X scope cns ci)(hi:XI X tgt iter wi)(hg:∀bk:Bk,XG (X.blk (".0"::(tns++cns)) scope bk) tgt (g bk)) (ht:∀bk:Bk,tK (X.blk (".0"::(tns++cns)) scope bk) ifs (tt bk)) (he:∀bk:Bk,XE (X.blk (".0"::(tns++cns)) scope bk) elt (te bk)) (hs:∀v,foldedSetIterable iter X.env v=pure v:=by intro _;rfl):XE X (.ListComp elt [⟨tgt,iter,ifs,0⟩] scope pos) (jV wi g tt te tns.length ci):=⟨oC hc S hi.h (fun bk=>(hg bk).h) (fun bk=>(ht bk).h) (fun bk=>(he bk).h) hs⟩
theorem bV{v:V}{u:Value}(hg:Gl X x)(hm:X.mg x=none)(hv:bootBuiltins x=some u)(r:RelV v u)(hn:(x==("__name__":Str))=false:=by kernel_rfl) (hd:(x==("__debug__":Str))=false:=by kernel_rfl):XE X (.Name x pos) (tC v):=⟨qB hg hm hv r (gY hn) hd⟩
theorem bM{v:V}{u:Value}(hg:Gl X x)(hm:X.mg x=some u)(r:RelV v u)(hd:(x==("__debug__":Str))=false:=by kernel_rfl):XE X (.Name x pos) (tC v):=⟨qD hg hm r hd⟩
theorem ak{tb:TE}{op:CmpOp}{r:R2}(ho:OpR X (compareOp op) r)(ha:XE X a ta)(hb:XE X b tb)(hm:behindInMarks op b=false):XT X (.Compare a [op] [b] pos) (pH (tOp r ta tb)):=⟨by
 intro pins s σ H Q I h;refine wpAny_isTrue_Compare1 (thn (ha.h pins s σ H _ I h) fun v s1 ⟨x,H1,I1,r1,q1⟩=>thn (hb.h pins s1 σ H1 _ I1 q1) fun u s2 ⟨y,H2,I2,r2,q2⟩=>thn (ho pins s2 σ H2 x y v u _ I2 r1 r2 q2) fun c s3 ⟨z,H3,I3,r3,k,e,q3⟩=>?_) hm
 subst e
 cases r3
 exact wpAny_truthy_bool (zA H3 I3 q3)⟩
theorem mF{tb tc:TE}{op op':CmpOp}{r r':R2}(ho:OpR X (compareOp op) r)(ho':OpR X (compareOp op') r')(ha:XE X a ta)(hb:XE X b tb)(hc:XE X c tc)(hm:lastMarks [op,op'] [b,c]=false:=by with_unfolding_all rfl):XT X (.Compare a [op,op'] [b,c] pos) (pH (i4 r r' ta tb tc)):=⟨by
 intro pins s σ H Q I h;refine isTrue_chain (thn (ha.h pins s σ H _ I h) fun v s1 ⟨x,H1,I1,r1,q1⟩=>test_link (thn (hb.h pins s1 σ H1 _ I1 q1) fun u s2 ⟨y,H2,I2,r2,q2⟩=>thn (ho pins s2 σ H2 x y v u _ I2 r1 r2 q2) fun d s3 ⟨z,H3,I3,r3,k,e,q3⟩=>?_)) hm
 subst e
 cases r3
 refine wpAny_truthy_bool ?_
 cases k with
 |false=>
  obtain ⟨k',e',q'⟩:=q3
  cases e'
  exact ite_ff (zA H3 I3 q')
 |true=>
  refine ite_tt (test_last (thn (hc.h pins s3 σ H3 _ I3 q3) fun w' s4 ⟨z',H4,I4,r4,q4⟩=>thn (ho' pins s4 σ H4 y z' u w' _ I4 r2 r4 q4) fun d' s5 hhx=>?_));obtain ⟨z2,H5,I5,r5,k2,e2,q5⟩:=hhx;subst e2
  cases r5
  exact wpAny_truthy_bool (zA H5 I5 q5)⟩
theorem bh{t:TE}(h:XE X e t)(he:∀whole,isTrue e X.env whole=(do let v <- whole;standAt e.pos;holding [v] (truthy v)):=by intro _;rfl):XT X e (tB t):=⟨by
 intro pins s σ H Q I hw;refine isTrue_plain (thn (h.h pins s σ H _ I hw) fun v s1 hhx=>?_) (he _);obtain ⟨x,H1,I1,r1,q1⟩:=hhx;obtain ⟨d,rfl,q⟩:=q1
 cases r1
 exact wpAny_truthy_bool (zA H1 I1 q)⟩
theorem eL(ha:XE X a ta)(he:∀whole,isTrue a X.env whole=(do let v <- whole;standAt a.pos;holding [v] (truthy v))):XT X a (fun σ H Q=>ta σ H fun x H'=>∃k,tJ X.K x H' k/\Q k H'):=⟨oI ha.h he⟩
theorem bg(ha:XT X a tA):XT X (.UnaryOp .Not a pos) (xy tA):=⟨by intro pins s σ H Q I h;exact isTrue_not (ha.h pins s σ H (fun c H1=>Q (!c) H1) I h)⟩
theorem aZ{t:TT}(h:XW X e t):XT X e t:=⟨PW.pt h.h⟩
theorem bU{b:Expr}{tB':TT}{rest:List Expr}(ha:XT X a tA)(hb:XW X (.BoolOp .And (b::rest) pos) tB'):XW X (.BoolOp .And (a::b::rest) pos) (xt tA tB'):=⟨by
 intro wh pins s σ H Q I h;refine isTrue_and (thn (ha.h pins s σ H _ I h) fun c s1 hhx=>?_);obtain ⟨H1,I1,q1⟩:=hhx
 cases c with
 |true=>exact hb.h wh pins s1 σ H1 Q I1 q1
 |false=>exact zA H1 I1 q1⟩
theorem bL(ha:XT X a tA):XW X (.BoolOp .And [a] pos) tA:=⟨by
 intro wh pins s σ H Q I h;refine isTrue_and (thn (ha.h pins s σ H Q I h) fun c s1 e=>?_)
 cases c with
 |true=>exact isTrue_and_nil e
 |false=>exact e⟩
theorem bw{b:Expr}{tB':TT}{rest:List Expr}(ha:XT X a tA)(hb:XW X (.BoolOp .Or (b::rest) pos) tB'):XW X (.BoolOp .Or (a::b::rest) pos) (tOr tA tB'):=⟨by
 intro wh pins s σ H Q I h;refine isTrue_or (thn (ha.h pins s σ H _ I h) fun c s1 hhx=>?_);obtain ⟨H1,I1,q1⟩:=hhx
 cases c with
 |true=>exact zA H1 I1 q1
 |false=>exact hb.h wh pins s1 σ H1 Q I1 q1⟩
theorem bA(ha:XT X a tA):XW X (.BoolOp .Or [a] pos) tA:=⟨by
 intro wh pins s σ H Q I h;refine isTrue_or (thn (ha.h pins s σ H Q I h) fun c s1 e=>?_)
 cases c with
 |false=>exact isTrue_or_nil e
 |true=>exact e⟩
theorem ab:XA X [] my:=⟨oz⟩
theorem aa{e:Expr}(ha:XE X e te)(hr:XA X es t)(hs:starEach (e::es) X.env=(false,eval e X.env)::starEach es X.env:=by rfl):XA X (e::es) (pG te t):=⟨kP ha.h hr.h hs⟩
theorem cL:XO X none lu:=⟨by intro pins s σ H Q I h;rw [evalPart_none];exact wpAny_pure (zB none H I .none h)⟩
theorem bK(h:XE X e te):XO X (some e) (tG te):=⟨by intro pins s σ H Q I hw;rw [evalPart_some];refine thn (h.h pins s σ H _ I hw) fun u s1 hhx=>?_;obtain ⟨x,H1,I1,r1,q1⟩:=hhx;obtain ⟨i,rfl,q⟩:=q1;obtain ⟨t,rfl⟩:=r1;exact zB (some i) H1 I1 (.int i t) q⟩
theorem aK(hN:X.N.Nodup)(hi:X.N[i]?=some x)(hx:Loc X.env.scope x)(hf:X.fn x=true\/X.env.scope.names.lookup x=some .local:=by first | exact .inl rfl | exact .inr rfl | assumption):XG X (.Name x pos) (bp i):=⟨kS hN hi hx hf⟩
theorem i5{t:TGs}{n:Nat}(hc:X.calm=true)(h:XGs X es t)(hn:(assignEach es X.env).length=n:=by rfl)(hst:(assignEach es X.env).findIdx? (·.1)=none:=by rfl):XG X (.Tuple es k pos) (wj X.K n t):=⟨by
 intro pins s σ H v u Q I r hw;obtain ⟨a,xs,e1,hq,hl,hw⟩:=hw;subst e1
 cases r
 obtain ⟨its,rv,ht,hz⟩:=I.tuple hq;refine assign_Tuple_tuple (I.ok.hd hc) ht (by simp [hn,<- hl,rv.length]) hst fun h' hx=>?_;have I1:Inv X pins σ H {s with heap:=h'}:=I.kept (t':=s.toks) fun b o e=>hx b o (cA (zq7 e)) e;exact h.h pins _ σ H xs _ Q I1 (by simpa using rv) hw⟩
theorem fN:XGs X [] wg:=⟨by
 intro pins s σ H vs us Q I r h;obtain ⟨e,h⟩:=h;subst e
 cases r
 exact assignInOrder_nil (zE σ H I h)⟩
theorem bz{e:Expr}{t:TG}{u:TGs}(h1:XG X e t)(h2:XGs X es u)(hs:(assignEach (e::es) X.env).map (·.2)=assign e X.env::(assignEach es X.env).map (·.2):=by rfl):XGs X (e::es) (rq t u):=⟨by
 intro pins s σ H vs us Q I r h;obtain ⟨v,vr,e1,h⟩:=h;subst e1
 cases r with
 |cons r rr=>rw [hs];refine assignInOrder_cons (thn (h1.h pins s σ H _ _ _ I r h) fun _ s1 hhx=>?_);obtain ⟨σ1,H1,I1,q1⟩:=hhx;exact h2.h pins s1 σ1 H1 _ _ Q I1 rr q1⟩
theorem cQ{ta:TA}(hg:Gl X "range") (hm:X.mg "range"=none) (ha:XA X [a] ta) (hs:starEach [a] X.env=[(false,eval a X.env)]:=by rfl):XI X tg (.Call (.Name "range" p) [a] [] pos) (rB ta):=⟨by
 intro pins s σ H R I h;refine Call_ (eu I hg hm boot_range (PyProof.Rows.callWith_type1 (thn (ha.h pos pins s σ H _ I h) fun us s1 hhx=>?_) hs rfl));obtain ⟨vs,H1,I1,r1,q1⟩:=hhx;obtain ⟨j,e,q1,q2,q⟩:=q1;subst e
 cases r1 with
 |cons r rr=>
  cases rr
  obtain ⟨t,rfl⟩:=r;exact call_range_1 (iU I1 Jn Jn q1 q2 (by simpa using q))⟩
theorem jY{ta:TA}(hg:Gl X "range") (hm:X.mg "range"=none) (ha:XA X [a,b] ta) (hs:starEach [a,b] X.env=[(false,eval a X.env),(false,eval b X.env)]:=by rfl) (hs2:starEach [b] X.env=[(false,eval b X.env)]:=by rfl):XI X tg (.Call (.Name "range" p) [a,b] [] pos) (nA ta):=⟨mi hg hm ha.h hs hs2⟩
theorem pO{ta:TA}{pos0:Pos}{elts:List Expr}{k0:Nat}(hm:X.mg "enumerate"=none) (ha:XA X [a] ta) (hg:Gl X "enumerate":=by rfl) (hs:starEach [a] X.env=[(false,eval a X.env)]:=by rfl):XI X (.Tuple elts k0 pos0) (.Call (.Name "enumerate" p) [a] [] pos) (nz X.K ta):=⟨qF hm ha.h hg hs⟩
theorem bJ{l:Expr}{tl:TE}(hl:XE X l tl):XI X tg l (rA X.K tl):=⟨by
 intro pins s σ H R I h;refine thn (hl.h pins s σ H _ I h) fun v s1 hhx=>?_;obtain ⟨x,H1,I1,r1,q1⟩:=hhx;obtain ⟨a,e,⟨xs,hq⟩,q⟩:=q1;subst e
 cases r1
 obtain ⟨its,rv,p,hz⟩:=I1.list hq;refine wpAny_pyIter_list p.isList ?_;refine ze s1.heap.objs.size ([s1.heap.objs.size]) _ _ H1 rfl (I1.kept (t':=s1.toks) fun b o e=>cw _ e) (mC a _) (zF _ (dM _ rfl) rfl rfl) (fun b hb=>?_) q;have e:b=s1.heap.objs.size:=by simpa using hb
 subst e;exact I1.fpOk (zq5 _) (I1.hok.fresh (zq5 _))⟩
theorem qY{l:Expr}{tl:TE}(hl:XE X l tl):XI X tg l (wo X.K tl):=⟨by
 intro pins s σ H R I h;refine thn (hl.h pins s σ H _ I h) fun v s1 hhx=>?_;obtain ⟨x,H1,I1,r1,q1⟩:=hhx;obtain ⟨a,e,⟨xs,hq⟩,q⟩:=q1;subst e
 cases r1
 obtain ⟨its,rv,p,hz⟩:=I1.tuple hq;refine wpAny_pyIter_tuple (show s1.heap.IsTuple a its.toArray from p) ?_;refine ze s1.heap.objs.size ([s1.heap.objs.size]) _ _ H1 rfl (I1.kept (t':=s1.toks) fun b o e=>cw _ e) (jX a _) (zF _ (dM _ rfl) rfl rfl) (fun b hb=>?_) q;have e:b=s1.heap.objs.size:=by simpa using hb
 subst e;exact I1.fpOk (zq5 _) (I1.hok.fresh (zq5 _))⟩
theorem az(hN:X.N.Nodup)(hi:X.N[i]?=some x)(hx:Loc X.env.scope x)(he:XE X e te)(hs:swapsWith e (some (.Name x pos')) pos.line X.env=pure false:=by rfl)(hf:X.fn x=true\/X.env.scope.names.lookup x=some .local:=by first | exact .inl rfl | exact .inr rfl | assumption):XS X (.Assign [.Name x pos'] e pos) (qW te (bp i)):=⟨uq hN hi hx he.h hs hf⟩
theorem eW{px:Pos}{elt tgt:Expr}{ifs:List Expr}{scope:Scope}{g:Bk->TG}{tt:Bk->TT}{te:Bk->TE}{tns cns:List Str}{ci:List Nat}(hN:X.N.Nodup)(hx:X.N[i]?=some x)(hl:Loc X.env.scope x)(hf:X.fn x=true)(hsw:swapsWith (.ListComp elt [⟨tgt,iter,ifs,0⟩] scope pos) (some (.Name x px)) pos'.line X.env=pure true)(hc:X.calm=true)(S:CompSc X scope cns ci)(hi:XI X tgt iter wi)(hg:∀bk:Bk,XG (X.blk (".0"::(tns++cns)) scope bk) tgt (g bk)) (ht:∀bk:Bk,tK (X.blk (".0"::(tns++cns)) scope bk) ifs (tt bk)) (he:∀bk:Bk,XE (X.blk (".0"::(tns++cns)) scope bk) elt (te bk)) (hs:∀v,foldedSetIterable iter X.env v=pure v:=by intro _;rfl):XS X (.Assign [.Name x px] (.ListComp elt [⟨tgt,iter,ifs,0⟩] scope pos) pos') (fH i wi g tt te tns.length ci):=⟨jN hN hx hl hf hsw hc S hi.h (fun bk=>(hg bk).h) (fun bk=>(ht bk).h) (fun bk=>(he bk).h) hs⟩
theorem lz{g:TG}(he:XE X e te)(hg:XG X tg g)(hs:swapsWithSole [tg] e pos.line X.env=pure false:=by rfl)(hw:swappedStores [tg] e X.env=pure none:=by rfl)(h1:(assignEach [tg] X.env).map (·.2)=[assign tg X.env]:=by rfl):XS X (.Assign [tg] e pos) (qW te g):=⟨by intro pins s σ H D I h;refine wpAny_Assign_stores (thn (he.h pins s σ H _ I h) fun v s1 hhx=>?_) hs hw;obtain ⟨x,H1,I1,r1,q1⟩:=hhx;rw [h1];exact thn (hg.h pins s1 σ H1 x v _ I1 r1 q1) fun _ s2 q=>q⟩
theorem bG{value:Expr}{f:Str}{tv:TE}(ha:XE X o ta)(hv:XE X value tv)(hs:swapsWith value (some (.Attribute o f pos')) pos.line X.env=pure false):XS X (.Assign [.Attribute o f pos'] value pos) (xp X.K ta tv f):=⟨by intro pins s σ H D I h;refine plainObj_wpAny_Assign_Attribute (thn (hv.h pins s σ H _ I h) fun u s1 ⟨y,H1,I1,ry,q⟩=>thn (ha.h pins s1 σ H1 _ I1 q) fun ov s2 hhx=>?_) hs;obtain ⟨x,H2,I2,rx,a,C,dx,fs,ex,ea,c,n,l,q2⟩:=hhx;subst ex;obtain rfl:ov=Value.ref a:=rx;exact jS I2 ea c n l ry fun s3 I3=>zE σ _ I3 q2⟩
theorem ay(he:XE X e te):XS X (.Return (some e) pos) (xB te):=⟨by intro pins s σ H D I h;exact wpAny_Return_some (thn (he.h pins s σ H _ I h) fun v s1 ⟨x,H1,I1,r1,q1⟩=>zU x σ H1 I1 r1 q1)⟩
theorem aL(he:XE X e te)(hs:swapsWith e none pos.line X.env=pure false:=by rfl):XS X (.Expr e pos) (tD te):=⟨by intro pins s σ H D I h;exact wpAny_Expr_any (thn (he.h pins s σ H _ I h) fun v s1 ⟨x,H1,I1,r1,q1⟩=>zE σ H1 I1 q1) I.quiet hs⟩
theorem aF{t u:TS}{a b:List Stmt}{tc:TT}(hc:XT X c tc)(ha:XSs X a t)(hb:XSs X b u):XS X (.If c a b pos) (xw tc t u):=⟨by
 intro pins s σ H D I h;refine wpAny_If (thn (hc.h pins s σ H _ I h) fun d s1 hhx=>?_);obtain ⟨H1,I1,q1⟩:=hhx
 cases d with
 |true=>exact ha.h pins s1 σ H1 D I1 q1
 |false=>exact hb.h pins s1 σ H1 D I1 q1⟩
theorem gG{body:List Stmt}{tc:TT}{tb:TS}(hp:PassesOwn (model X.prog X.w) X.A X.env X.xe)(hc:XT X c tc)(hb:XSs X body tb):XS X (.While c body [] pos) (pI tc tb):=⟨by
 intro pins s σ H D I h;obtain ⟨W,⟨m0,w0⟩,turn⟩:=h;refine wpAny_While (codeAny_whileLoop (fun n s'=>∃σ' H',Inv X pins σ' H' s'/\W n σ' H') ?_ m0 (zE σ H I w0));rintro n s1 ⟨σ1,H1,I1,w1⟩;refine wpAny_passesOwn hp (thn (hc.h pins s1 σ1 H1 _ I1 (turn n σ1 H1 w1)) fun b s2 hhx=>?_);obtain ⟨H2,I2,q2⟩:=hhx
 cases b with
 |true=>
  obtain ⟨N,hN,q2⟩:=q2;rw [if_pos rfl];refine wpAny_passesOwn hp (thn (hb.h pins s2 σ1 H2 _ I2 q2) fun f s3 q3=>?_)
  cases f with
  |next=>
   obtain ⟨σ3,H3,I3,n3⟩:=q3;obtain ⟨m',hm,w3⟩:=hN σ3 H3 n3;exact zA m' hm (zE σ3 H3 I3 w3)
  |cont=>
   obtain ⟨σ3,H3,I3,n3⟩:=q3;obtain ⟨m',hm,w3⟩:=hN σ3 H3 n3;exact zA m' hm (zE σ3 H3 I3 w3)
  |brk=>exact q3
  |ret v=>exact q3
 |false=>rw [if_neg zq3];exact wpAny_execs_nil (zE σ1 H2 I2 q2)⟩
theorem bZ{body:List Stmt}{g:TG}{tb:TS}(hp:PassesOwn (model X.prog X.w) X.A X.env X.xe)(hc:X.calm=true)(hi:XI X tg iter wi)(hg:XG X tg g)(hb:XSs X body tb)(hs:∀x,foldedSetIterable iter X.env x=pure x:=by intro _;rfl):XS X (.For tg iter body [] pos) (vx wi g tb):=⟨uo hp hc hi.h hg.h hb.h hs⟩
theorem mE:XS X (.Break pos) pF:=⟨fun _ _ σ H _ I h=>wpAny_Break (zE σ H I h)⟩
theorem b5{st:Stmt}:XS X st vz:=⟨fun _ _ _ _ _ _ h=>h.elim⟩
theorem aA:XSs X [] tE:=⟨fun _ _ σ H _ I h=>wpAny_execs_nil (zE σ H I h)⟩
theorem af{st:Stmt}{t:TS}(h1:XS X st t):XSs X [st] t:=⟨by
 intro pins s σ H D I h;refine wpAny_execs_cons (thn (h1.h pins s σ H D I h) fun f s1 q=>?_)
 cases f with
 |next=>exact wpAny_execs_nil q
 |ret v=>exact q
 |brk=>exact q
 |cont=>exact q⟩
theorem ae{st:Stmt}{rest:List Stmt}{t u:TS}(h1:XS X st t)(h2:XSs X rest u):XSs X (st::rest) (vA t u):=⟨by
 intro pins s σ H D I h;refine wpAny_execs_cons (thn (h1.h pins s σ H {D with nx:=u D} I h) fun f s1 q=>?_)
 cases f with
 |next=>
  obtain ⟨σ',H',I',q⟩:=q;exact h2.h pins s1 σ' H' D I' q
 |ret v=>exact q
 |brk=>exact q
 |cont=>exact q⟩
theorem b9{st:Stmt}{ss:List Stmt}{ta tb:TS}(h1:XS X st ta)(h2:XSs X ss tb):XSs X (st::ss) (vy ta tb):=⟨by
 intro pins s σ H D I h;obtain ⟨Mid,a,b⟩:=h;refine wpAny_execs_cons (thn (h1.h pins s σ H {D with nx:=Mid} I a) fun f s1 q=>?_)
 cases f with
 |next=>
  obtain ⟨σ',H',I',q⟩:=q;exact h2.h pins s1 σ' H' D I' (b σ' H' q)
 |ret v=>exact q
 |brk=>exact q
 |cont=>exact q⟩
theorem cg:tK X [] mz:=⟨fun pins s σ H Q I h=>wpAny_tests_nil (zA H I h)⟩
theorem xD{CX:CXT}{C:Addr}{fd:FuncData}{dvs:List V}{ds:List Value}{E:XK}{m:Str}{e:Expr}{pl:Sem Bool}(he:XE X o ta)(c:Cls X.K C)(hm:lF X.K C m f)(F:FnOk X.prog X.w X.K X.mg X.base CX k f fd ps sp)(hr:Room k X.A)(hb:Binds X.K fd ps ds)(hd:Vals dvs ds)(hx:cX CX X E)(ha:XA X (e::es) t)(hst:starEach (e::es) X.env=(false,eval e X.env)::starEach es X.env:=by rfl)(hpl:(backTo pos (starEach es X.env)).any (·.1)=false:=by rfl)(ht:eval (.Call (.Attribute o m apos) (e::es) [] pos) X.env=(do
 let ov <- eval o X.env
 standAt apos.atName
 let (f,first) <- holding [ov] (getMethod ov m pl)
 callWith pos f first (backTo pos (starEach (e::es) X.env)) (backToKw pos (keywordEach [] X.env))):=by rfl):XE X (.Call (.Attribute o m apos) (e::es) [] pos) (ei C m sp dvs E ta t):=⟨kR he.h c hm F hr hb hd hx ha.h hst hpl ht⟩
theorem eM{C:Addr}{fd:FuncData}{st:Stmt}{e:Expr}(c:KlsAt X.K X.mg x C)(D:bi X.K C "__init__" qual st ps f fd) (G:FnOk X.prog X.w X.K X.mg X.base CX0 k f fd ps sp) (hr:Room (k+1) X.A) (ha:XA X (e::es) t) (hg:Gl X x) (hdb:(x==("__debug__":Str))=false:=by kernel_rfl) (he:starEach (e::es) X.env=(false,eval e X.env)::starEach es X.env:=by rfl) (hpl:(backTo pos (starEach es X.env)).any (·.1)=false:=by rfl):XE X (.Call (.Name x p) (e::es) [] pos) (je C sp [] E0 t):=⟨oM c D G hr ha.h hg hdb he hpl⟩
theorem aR{C:Addr}{fd:FuncData}{m:Str}{st:Stmt}{e:Expr}{pl:Sem Bool}(c:Cls X.K C)(D:bi X.K C m qual st ps f fd)(G:FnOk X.prog X.w X.K X.mg X.base CX0 k f fd ps sp)(hr:Room k X.A)(he:XE X o ta)(ha:XA X (e::es) t)(hst:starEach (e::es) X.env=(false,eval e X.env)::starEach es X.env:=by rfl)(hpl:(backTo pos (starEach es X.env)).any (·.1)=false:=by rfl)(ht:eval (.Call (.Attribute o m apos) (e::es) [] pos) X.env=(do
 let ov <- eval o X.env
 standAt apos.atName
 let (f,first) <- holding [ov] (getMethod ov m pl)
 callWith pos f first (backTo pos (starEach (e::es) X.env)) (backToKw pos (keywordEach [] X.env))):=by rfl):XE X (.Call (.Attribute o m apos) (e::es) [] pos) (ei C m sp [] E0 ta t):=⟨oN c D G hr he.h ha.h hst hpl ht⟩
theorem bC{C:Addr}{fd:FuncData}{m:Str}{st:Stmt}{pl:Sem Bool}(c:Cls X.K C)(D:bi X.K C m qual st ps f fd)(G:FnOk X.prog X.w X.K X.mg X.base CX0 k f fd ps sp)(hr:Room k X.A)(he:XE X o ta)(ht:eval (.Call (.Attribute o m apos) [] [] pos) X.env=(do
 let ov <- eval o X.env
 standAt apos.atName
 let (f,first) <- holding [ov] (getMethod ov m pl)
 callWith pos f first (backTo pos (starEach [] X.env)) (backToKw pos (keywordEach [] X.env))):=by rfl):XE X (.Call (.Attribute o m apos) [] [] pos) (ei C m sp [] E0 ta my):=⟨ml c D G hr he.h ht⟩
theorem cm{vs:List V}(h:f9 es=some vs):XA X es (tVs vs):=⟨iR h⟩
end L2
namespace L2
end L2
namespace L2
section
variable {X:Cx}
end
section
variable {X:Cx} {e:Expr} {x:Str} {p apos cpos:Pos} {ty:TE} {a:Addr} {kvs:List (Key×V)} {pr:Params}
end
end L2
namespace L2
section
variable {prog:Program} {w:World} {A:Around} {E:Value->Shared->Prop} {s:Shared}
open AutoSeq1 (wpAny_loadPart') in
end
section
variable {K:W.Frag} {a:Addr} {xs:List V}
end
section
variable {K:W.Frag} {a b:Addr} {H:Hp} {Q:VK}
theorem wL:wC K [.ref a] H Q=∃bs:List Bool,SqL K H a (bs.map V.bl)/\Q (.bl (bs.all id)) H:=propext ⟨by rintro ⟨_,ns,e,q⟩;cases e;exact ⟨ns,q⟩,by rintro ⟨ns,q⟩;exact zE a ns rfl q⟩
theorem oR:kW (.ref a) [.ref b] H Q=∃xs zs,H a=some (.lst xs)/\H b=some (.lst zs)/\xs.length+zs.length<=sizeLine/\Q .non (upd H a (.lst (xs++zs))):=propext ⟨by rintro ⟨_,_,xs,zs,e1,e2,q⟩;cases e1;cases e2;exact zN xs zs q,by rintro ⟨xs,zs,q⟩;exact zL a b xs zs (zC rfl rfl q)⟩
end
end L2
namespace L2
variable {a0 a1 a10 a2 a3 a4 a5 a6 a7 a8 a9:Option V} {i:Int} {r:St} {x:V}
def qV:Nat->St->Option V
 |0,o::_=>o
 |n+1,_::r=>qV n r
 |_,[]=>none
theorem jb:∀{n:Nat} {σ:St} {v:V},qV n σ=some v->σ[n]?=some (some v)
 |0,o::_,v,h=>by rw [show qV 0 (o::_)=o from rfl] at h;rw [h];rfl
 |n+1,_::r,v,h=>by rw [xO];exact jb h
 |0,[],_,h=>by cases h
 |_+1,[],_,h=>by cases h
def d8(i:Nat):TE:=fun σ H Q=>match qV i σ with
 |some v=>Q v H
 |none=>False
theorem qZ{i:Nat}{σ:St}{H:Hp}{Q:VK}(h:d8 i σ H Q):vB i σ H Q:=by
 unfold d8 at h
 split at h
 ·next v e=>exact zA v (jb e) h
 ·exact h.elim
theorem yqv{X:Cx}(i:Nat){x:Str}{pos:Pos}(hv:Vis X.env.scope x)(hN:X.N[i]?=some x:=by rfl)(hd:(x==("__debug__":Str))=false:=by kernel_rfl) (hcd:(x==("__classdict__":Str))=false:=by kernel_rfl):XE X (.Name x pos) (d8 i):=
 ⟨fun pins s σ H Q I h=>qv i hv hN hd hcd pins s σ H Q I (qZ h)⟩
def yI0(g:Int->Int->V):R2:=fun x y H Q=>match x,y with
 | .int i,.int j=>Q (g i j) H
 |_,_=>False
def yI(C:Int->Int->Prop)(g:Int->Int->V):R2:=fun x y H Q=>match x,y with
 | .int i,.int j=>C i j/\Q (g i j) H
 |_,_=>False
def yU(g:Int->V):V->Hp->VK->Prop:=fun x H Q=>match x with
 | .int i=>Q (g i) H
 |_=>False
theorem eN{g:Int->Int->V}{y:V}{H:Hp}{Q:VK}(h:yI0 g x y H Q):rI0 g x y H Q:=by
 unfold yI0 at h
 split at h
 ·exact zB _ _ rfl rfl h
 ·exact h.elim
theorem gH{C:Int->Int->Prop}{g:Int->Int->V}{y:V}{H:Hp}{Q:VK}(h:yI C g x y H Q):rI C g x y H Q:=by
 unfold yI at h
 split at h
 ·exact zB _ _ rfl rfl h
 ·exact h.elim
theorem xE{g:Int->V}{H:Hp}{Q:VK}(h:yU g x H Q):rU g x H Q:=by
 unfold yU at h
 split at h
 ·exact zA _ rfl h
 ·exact h.elim
section
variable {X:Cx}
theorem OpR.le{f:Value->Value->Sem Value}{r r':R2}(h:OpR X f r)(le:∀{x y:V} {H:Hp} {Q:VK},r' x y H Q->r x y H Q):OpR X f r':=fun pins s σ H x y v u Q I rx ry q=>h pins s σ H x y v u Q I rx ry (le q)
theorem ba:OpR X (binaryOp .Add) (yI0 fun i j=>.int (i+j)):=OpR.le ud eN
theorem i9:OpR X (binaryOp .Sub) (yI0 fun i j=>.int (i-j)):=OpR.le ui eN
theorem cE:OpR X (binaryOp .Mult) (yI CMul fun i j=>.int (i * j)):=OpR.le uf gH
theorem aY:OpR X (binaryOp .Mod) (yI (fun _ j=>0<j) fun i j=>.int (i % j)):=OpR.le ue gH
theorem lC:OpR X (binaryOp .Pow) (yI mJ fun i j=>.int (i ^ j.toNat)):=OpR.le ug gH
theorem i7:OpR X (binaryOp .LShift) (yI mJ fun i j=>.int (i * 2 ^ j.toNat)):=OpR.le uh gH
theorem fO:OpR X (compareOp .Lt) (yI0 fun i j=>.bl (decide (i<j))):=OpR.le wA eN
theorem i6:OpR X (compareOp .LtE) (yI0 fun i j=>.bl (decide (i<=j))):=OpR.le wz eN
theorem c8:OpR X (compareOp .Gt) (yI0 fun i j=>.bl (decide (j<i))):=OpR.le wy eN
theorem pP:OpR X (compareOp .GtE) (yI0 fun i j=>.bl (decide (j<=i))):=OpR.le wx eN
theorem b6:OpR X (binaryOp .FloorDiv) (yI CDivB fun i j=>.int (i / j)):=OpR.le ox gH
theorem pQ:OpR X (binaryOp .Mult) (yI IntMulOk fun i j=>.int (i * j)):=OpR.le qy gH
theorem lE:UnR X (unaryOp .USub) (yU fun i=>.int (-i)):=fun pins s σ H x v Q I rx q=>vE pins s σ H x v Q I rx (xE q)
end
section
variable {H:Hp} {Q:VK}
theorem yx{v:V}:d8 0 (some v::r) H Q=Q v H:=rfl
theorem yy{v:V}:d8 1 (a0::some v::r) H Q=Q v H:=rfl
theorem yz{v:V}:d8 2 (a0::a1::some v::r) H Q=Q v H:=rfl
theorem yA{v:V}:d8 3 (a0::a1::a2::some v::r) H Q=Q v H:=rfl
theorem yB{v:V}:d8 4 (a0::a1::a2::a3::some v::r) H Q=Q v H:=rfl
theorem yC{v:V}:d8 5 (a0::a1::a2::a3::a4::some v::r) H Q=Q v H:=rfl
theorem yD{v:V}:d8 6 (a0::a1::a2::a3::a4::a5::some v::r) H Q=Q v H:=rfl
theorem yE{v:V}:d8 7 (a0::a1::a2::a3::a4::a5::a6::some v::r) H Q=Q v H:=rfl
theorem yF{v:V}:d8 8 (a0::a1::a2::a3::a4::a5::a6::a7::some v::r) H Q=Q v H:=rfl
theorem yG{v:V}:d8 9 (a0::a1::a2::a3::a4::a5::a6::a7::a8::some v::r) H Q=Q v H:=rfl
theorem xF{v:V}:d8 10 (a0::a1::a2::a3::a4::a5::a6::a7::a8::a9::some v::r) H Q=Q v H:=rfl
theorem xG{v:V}:d8 11 (a0::a1::a2::a3::a4::a5::a6::a7::a8::a9::a10::some v::r) H Q=Q v H:=rfl
theorem xH{v:V}{a11:Option V}:d8 12 (a0::a1::a2::a3::a4::a5::a6::a7::a8::a9::a10::a11::some v::r) H Q=Q v H:=rfl
theorem xI{v:V}{a11:Option V}{a12:Option V}:d8 13 (a0::a1::a2::a3::a4::a5::a6::a7::a8::a9::a10::a11::a12::some v::r) H Q=Q v H:=rfl
theorem yw{g:Int->Int->V}{j:Int}:yI0 g (.int i) (.int j) H Q=Q (g i j) H:=rfl
theorem y_I{C:Int->Int->Prop}{g:Int->Int->V}{j:Int}:yI C g (.int i) (.int j) H Q=(C i j/\Q (g i j) H):=rfl
theorem y_U{g:Int->V}:yU g (.int i) H Q=Q (g i) H:=rfl
end
end L2
end
set_option maxHeartbeats 4000000
namespace FA
open PySem L2 PyProof.Rows
def cc(c k:Int):Int:=
 if 10 ^ Int.toNat 40<=c then (c-10 ^ Int.toNat 40) / (1 * 2 ^ (100 * (k % 60)).toNat) % (1 * 2 ^ Int.toNat 100)
 else ((c * c+3 * c+7919 * k+1) * 48271 % 2147483629 * ((c * c+3 * c+7919 * k+1) * 48271 % 2147483629)+7) % 2147483587
theorem fB(c k:Int):0<=cc c k:=by
 unfold cc
 split
 ·exact cI _ Jm
 ·exact cI _ Jm
theorem CDivB.pow{i:Int}{n:Nat}(h:n<9000):CDivB i (1 * 2 ^ n):=by rw [ri];refine ⟨Int.pow_pos Jm,?_⟩;rw [Int.natAbs_pow];show (2 ^ n).log2<9000;rw [Nat.log2_two_pow];exact h
theorem qp{c:Int}(h:Builtin.Int.intBits c<=2 ^ 20):IntMulOk c c:=mulOk_of_bits h h Jm
def ltr(z:Int):Nat:=97+(z % 26).toNat
def nU(m pl k:Int)(j:Nat):Int:=m / 36+j * j+(if decide ((j:Int)=pl)=true then 1 else 0) * k
def nm(m pl k:Int):Nat->Str
 |0=>""
 |j+1=>nm m pl k j++⟨#[ltr (nU m pl k j)]⟩
theorem jC(m pl k:Int):∀j,(nm m pl k j).length=j
 |0=>by show ("":Str).length=0;decide +kernel
 |j+1=>by rw [nm,strLen_append,jC m pl k j];rfl
def nms(m:Int)(n:Nat):List Str:=(List.range n).map fun (k:Nat)=>nm m (m / 6 % (1+m % 6)) k (1+m % 6).toNat
theorem nV(m:Int)(n:Nat):nms m (n+1)=nms m n++[nm m (m / 6 % (1+m % 6)) n (1+m % 6).toNat]:=by unfold nms;rw [List.range_succ,zq6,List.map_singleton]
def xW:List Str:=["tell","end","if","in","box","while","else","plus"]
def bb(c:Int):List Str:=if cc c 3 / 1000 % 5=1 then xW else nms (cc c 3) 8
theorem wu:∀n:Nat,n<26->atI ("abcdefghijklmnopqrstuvwxyz":Str).cps.toList (n:Int)=some (97+n):=by decide +kernel
theorem u5(z:Int):atI ("abcdefghijklmnopqrstuvwxyz":Str).cps.toList (z % 26)=some (ltr z):=by have h0:0<=z % 26:=cI _ Jm;have h1:z % 26<26:=dw _ Jm;unfold ltr;obtain ⟨n,hn⟩:=ji h0;rw [hn];exact wu n Jn
def eZ(m:Int)(ns:List Str):Str:=ns.getD (m % (ns.length:Int)).toNat ""
theorem hG{m:Int}{ns:List Str}(h:¬ns=[]):atI (ns.map V.str) (m % (ns.length:Int))=some (.str (eZ m ns)):=by
 have hl:0<ns.length:=zq57.mpr h;have h0:0<=m % (ns.length:Int):=cI _ Jn;have h1:m % (ns.length:Int)<ns.length:=dw _ Jn;unfold eZ;obtain ⟨n,hn⟩:=ji h0;rw [hn];refine aP ?_;have hn':n<ns.length:=by omega
 rw [da,fV,pU,dc hn'];rfl
theorem ec{m:Int}{ns:List Str}(h:¬ns=[]):eZ m ns∈ns:=by
 have hl:0<ns.length:=zq57.mpr h;have h0:0<=m % (ns.length:Int):=cI _ Jn;have h1:m % (ns.length:Int)<ns.length:=dw _ Jn;unfold eZ;have hn':(m % (ns.length:Int)).toNat<ns.length:=by omega
 rw [pU,dc hn'];exact k8 hn'
def hC(m:Int)(ns:List Str)(w:Int):V:=if 0<m % 3/\¬ns=[] then .str (eZ (m / 3) ns) else .int (m / 3 % (1 * 2 ^ w.toNat))
def opsL:List Str:=["plus","less","and","or","xor","below","same"]
def iz(m:Int)(ns:List Str)(w:Int):List V:=
 if m % 9=0\/ns=[] then [.str "tell",hC (m / 16) ns w]
 else if m % 9=1 then [.str "copy",.str (eZ (m / 7) ns),hC (m / 16) ns w]
 else [.str (opsL.getD (m % 9-2).toNat ""),.str (eZ (m / 7) ns),hC (m / 16) ns w,hC (m / 1009) ns w]
theorem qz:∀n:Nat,n<7->atI [V.str "plus",V.str "less",V.str "and",V.str "or",V.str "xor",V.str "below",V.str "same"] (n:Int)=some (.str (opsL.getD n "")):=by decide +kernel
theorem uj{j:Int}(h0:0<=j)(h7:j<7):atI [V.str "plus",V.str "less",V.str "and",V.str "or",V.str "xor",V.str "below",V.str "same"] j=some (.str (opsL.getD j.toNat "")):=by obtain ⟨n,rfl⟩:=ji h0;rw [fV];exact qz n (Int.ofNat_lt.mp h7)
end FA
namespace L2
open PySem PyProof.Rows
variable {H:Hp} {k:Int}
theorem fz{A:Around}{k n:Nat}(h:n<=64)(hr:Room k A):A.units+n<cLine:=Nat.lt_of_le_of_lt (Nat.add_le_add_left h _) hr.units
theorem kr{xs:List V}(h:0<=k):dE xs none (some k)=xs.take k.toNat:=by
 obtain ⟨n,rfl⟩:=ji h;unfold dE;rw [HT.iV,HT.ff,List.drop_zero,fV,Nat.sub_zero]
 by_cases hn:n<=xs.length
 ·rw [mG hn]
 ·rw [rj Jn,f6,pV Jn]
theorem em{xs:List V}(h:0<=k):dE xs (some k) none=xs.drop k.toNat:=by
 obtain ⟨n,rfl⟩:=ji h;unfold dE;rw [HT.iV,HT.ff,fV]
 by_cases hn:n<=xs.length
 ·rw [mG hn,pV Jo]
 ·rw [rj Jn,rk (zq5 _),rk Jn];simp
theorem iw{xs:List V}{l:Int}(h:0<=k)(h2:0<=l):dE xs (some k) (some l)=(xs.take l.toNat).drop k.toNat:=by
 obtain ⟨n,rfl⟩:=ji h;obtain ⟨m,rfl⟩:=ji h2;unfold dE;rw [HT.ff,HT.ff,fV,fV]
 by_cases hn:n<=xs.length
 ·rw [mG hn]
  by_cases hm:m<=xs.length
  ·rw [mG hm,List.drop_take]
  ·rw [rj Jn,pV Jo,pV Jn]
 ·rw [rj (show xs.length<=n by omega),rk (zq5 _),rk (by rw [eP];omega)];simp
section
variable {K:W.Frag} {te:TE} {ci:List Nat} {σ:St} {acc:Addr} {Q:Hp->Prop} {H1:Hp} {a:Addr} {xs:List V}
theorem fv{α:Type}(xs:List α):xs.filter (fun _=>true)=xs:=by simp
theorem f7(f:V->V)(hz:xs.length<=sizeLine)(hl:SqL K H1 a xs)(hacc:H1 acc=none)(hf:∀x∈xs,∀H Q',Same H1 H->Q' (f x) H->te (aT [some x] ci σ) H Q')
  (q:Q (upd H1 acc (.lst (xs.map f)))):bP (Itl K a) (bp 1) mz te 1 ci σ acc Q (upd H1 acc (.lst [])):=
 mX (fun _=>true) f hz hl hacc (fun _ _ _ _ _ h=>h) (fun x hm H Q' s _ h=>hf x hm H Q' s h) (by rw [fv];exact q)
theorem qe(f:V->V)(hz:xs.length<=sizeLine)(hl:SqT K H1 a xs)(hacc:H1 acc=none)(hf:∀x∈xs,∀H Q',Same H1 H->Q' (f x) H->te (aT [some x] ci σ) H Q')
  (q:Q (upd H1 acc (.lst (xs.map f)))):bP (Itt K a) (bp 1) mz te 1 ci σ acc Q (upd H1 acc (.lst [])):=
 mY (fun _=>true) f hz hl hacc (fun _ _ _ _ _ h=>h) (fun x hm H Q' s _ h=>hf x hm H Q' s h) (by rw [fv];exact q)
end
structure TSame(H H':Hp):Prop where
 tup:∀b xs,H b=some (.tup xs)->H' b=some (.tup xs)
 frz:∀b o u,H b=some (.frz o u)->H' b=some (.frz o u)
theorem Same.ts{H':Hp}(s:Same H H'):TSame H H':=⟨fun b xs e=>s b _ e,fun b o u e=>s b _ e⟩
theorem TSame.trans{H1 H2:Hp}(a:TSame H H1)(b:TSame H1 H2):TSame H H2:=⟨fun c xs e=>b.tup c xs (a.tup c xs e),fun c o u e=>b.frz c o u (a.frz c o u e)⟩
theorem TSame.updL{p:Addr}{ys:List V}{o:HO}(h:H p=some (.lst ys)):TSame H (upd H p o):=
 ⟨fun b xs e=>by rw [aC (iL e h (by intro z;cases z))];exact e,fun b o u e=>by rw [aC (iL e h (by intro z;cases z))];exact e⟩
theorem TSame.seqT{K:W.Frag}{H':Hp}{a:Addr}{xs:List V}(e:TSame H H')(h:SqT K H a xs):SqT K H' a xs:=by
 rcases h with (h | ⟨o,h⟩) | h
 ·exact .inl (.inl (e.tup _ _ h))
 ·exact .inl (.inr ⟨o,e.frz _ _ _ h⟩)
 ·exact .inr h
end L2
namespace FA
open PySem L2
def iQ(m:Int)(ns:List Str)(w:Int):FB.Opd:=if 0<m % 3/\¬ns=[] then .box (eZ (m / 3) ns) else .word (m / 3 % (1 * 2 ^ w.toNat))
theorem jJ{m:Int}{ns:List Str}{w:Int}:(iQ m ns w).v=hC m ns w:=by
 unfold iQ hC
 split<;>rfl
def cO(m:Int)(ns:List Str)(w:Int):FB.Deed:=
 if m % 9=0\/ns=[] then .tell (iQ (m / 16) ns w)
 else if m % 9=1 then .copy (eZ (m / 7) ns) (iQ (m / 16) ns w)
 else .op (opsL.getD (m % 9-2).toNat "") (eZ (m / 7) ns) (iQ (m / 16) ns w) (iQ (m / 1009) ns w)
theorem lP{m:Int}{ns:List Str}{w:Int}:(cO m ns w).vs=iz m ns w:=by
 unfold cO iz
 split
 ·simp only [FB.Deed.vs,jJ]
 ·split
  ·simp only [FB.Deed.vs,jJ]
  ·simp only [FB.Deed.vs,jJ]
theorem eT{m:Int}{ns:List Str}{w:Int}:(cO m ns w).fine:=by
 unfold cO
 split
 ·trivial
 ·split
  ·trivial
  ·show opsL.getD (m % 9-2).toNat ""∈FB.opsL;have h0:0<=m % 9:=cI _ Jm;have h1:m % 9<9:=dw _ Jm;have h:∀n:Nat,n<7->opsL.getD n ""∈FB.opsL:=by decide +kernel
   by_cases h2:m % 9-2<7
   ·exact h _ Jn
   ·exact absurd h1 Jn
end FA
namespace L2
open PySem PySem.Spec PyProof.Rows
section
variable {K:W.Frag} {tt:TT} {te:TE} {ci:List Nat} {σ:St} {acc:Addr} {Q:Hp->Prop} {H1:Hp} {a:Addr} {xs:List V}
end
end L2
namespace FD
open PySem L2 PyProof.Rows
end FD
namespace L2
open PySem PyProof.Rows
theorem Paired.take{α β:Type}{F:α->β->Prop}:∀{l₁:List α} {l₂:List β} (n:Nat),Paired F l₁ l₂->Paired F (l₁.take n) (l₂.take n)
 |_,_,0,_=>by rw [vP,vP];exact .nil
 |_,_,_+1,.nil=>.nil
 |_,_,n+1,.cons h t=>.cons h (Paired.take n t)
theorem Paired.drop{α β:Type}{F:α->β->Prop}:∀{l₁:List α} {l₂:List β} (n:Nat),Paired F l₁ l₂->Paired F (l₁.drop n) (l₂.drop n)
 |_,_,0,h=>h
 |_,_,_+1,.nil=>.nil
 |_,_,n+1,.cons _ t=>Paired.drop n t
end L2
namespace FG
open PySem L2 PyProof.Rows
end FG
namespace FS
open PySem L2 FB PyProof.Rows
inductive Stm where
 |deed (d:Deed)
 |ifs (n:Str) (ones others:List Stm)
 |whl (n:Str) (rows:List Stm)
variable {H H':Hp} {f g:List Addr}
mutual
inductive StmV (K:W.Frag) (H:Hp):V->Stm->List Addr->Prop where
 |deed {q:Addr} {d:Deed}:d.fine->SqT K H q d.vs->StmV K H (.ref q) (.deed d) []
 |ifs {q a b:Addr} {n:Str} {xs ys:List V} {ones others:List Stm} {f g:List Addr}:SqT K H q [.str "if",.str n,.ref a,.ref b]->H a=some (.lst xs)->H b=some (.lst ys)->StmsV K H xs ones f->StmsV K H ys others g->
   StmV K H (.ref q) (.ifs n ones others) (a::b::(f++g))
 |whl {q a:Addr} {n:Str} {xs:List V} {rows:List Stm} {f:List Addr}:SqT K H q [.str "while",.str n,.ref a]->H a=some (.lst xs)->StmsV K H xs rows f->StmV K H (.ref q) (.whl n rows) (a::f)
inductive StmsV (K:W.Frag) (H:Hp):List V->List Stm->List Addr->Prop where
 |nil:StmsV K H [] [] []
 |cons {x:V} {s:Stm} {xs:List V} {ss:List Stm} {f g:List Addr}:StmV K H x s f->StmsV K H xs ss g->StmsV K H (x::xs) (s::ss) (f++g)
end
def Kept(fp:List Addr)(H H':Hp):Prop:=∀a∈fp,∀o,H a=some o->H' a=some o
theorem Kept.left(h:Kept (f++g) H H'):Kept f H H':=fun a ha=>h a (d9 _ ha)
theorem Kept.right(h:Kept (f++g) H H'):Kept g H H':=fun a ha=>h a (cx _ ha)
theorem Kept.tail{x:Addr}(h:Kept (x::g) H H'):Kept g H H':=fun a ha=>h a (zq2 _ ha)
theorem Kept.of{fp:List Addr}(s:Same H H'):Kept fp H H':=fun a _ o e=>s a o e
theorem Kept.upd{fp:List Addr}{p:Addr}{o:HO}(h:p∉fp):Kept fp H (upd H p o):=fun a ha u e=>by rw [aC (fun z=>h (by rw [<- z];exact ha))];exact e
variable {K:W.Frag}
mutual
theorem StmV.keep(t:TSame H H'):∀{x:V} {s:Stm} {f:List Addr},StmV K H x s f->Kept f H H'->StmV K H' x s f
 |_,_,_,.deed hf h,_=>.deed hf (t.seqT h)
 |_,_,_,.ifs (a:=a) (b:=b) h ha hb h1 h2,k=>.ifs (t.seqT h) (k a Jo _ ha) (k b Jo _ hb) (StmsV.keep t h1 k.tail.tail.left) (StmsV.keep t h2 k.tail.tail.right)
 |_,_,_,.whl (a:=a) h ha h1,k=>.whl (t.seqT h) (k a Jo _ ha) (StmsV.keep t h1 k.tail)
theorem StmsV.keep(t:TSame H H'):∀{xs:List V} {ss:List Stm} {f:List Addr},StmsV K H xs ss f->Kept f H H'->StmsV K H' xs ss f
 |_,_,_,.nil,_=>.nil
 |_,_,_,.cons h1 h2,k=>.cons (StmV.keep t h1 k.left) (StmsV.keep t h2 k.right)
end
theorem StmsV.same{xs:List V}{ss:List Stm}(h:StmsV K H xs ss f)(s:Same H H'):StmsV K H' xs ss f:=h.keep s.ts (Kept.of s)
theorem StmV.same{x:V}{s:Stm}(h:StmV K H x s f)(sm:Same H H'):StmV K H' x s f:=h.keep sm.ts (Kept.of sm)
theorem StmsV.length:∀{xs:List V} {ss:List Stm} {f:List Addr},StmsV K H xs ss f->xs.length=ss.length
 |_,_,_,.nil=>rfl
 |_,_,_,.cons _ h=>by rw [cj,cj,StmsV.length h]
theorem StmsV.snoc{y:V}{r:Stm}(hy:StmV K H y r g):∀{xs:List V} {ss:List Stm} {f:List Addr},StmsV K H xs ss f->StmsV K H (xs++[y]) (ss++[r]) (f++g)
 |_,_,_,.nil=>by have:=StmsV.cons hy StmsV.nil;rw [fU] at this;exact this
 |_,_,_,.cons h1 h2=>by rw [fX];exact .cons h1 (StmsV.snoc hy h2)
mutual
theorem StmV.tracked:∀{x:V} {s:Stm} {f:List Addr},StmV K H x s f->∀a∈f,∃zs,H a=some (.lst zs)
 |_,_,_,.deed _ _,a,ha=>by cases ha
 |_,_,_,.ifs (f:=f) (g:=g) h ha hb h1 h2,c,hc=>by
  rcases zq1.mp hc with rfl | hc
  ·exact ⟨_,ha⟩
  rcases zq1.mp hc with rfl | hc
  ·exact ⟨_,hb⟩
  rcases zq10.mp hc with hc | hc
  ·exact StmsV.tracked h1 c hc
  ·exact StmsV.tracked h2 c hc
 |_,_,_,.whl h ha h1,c,hc=>by
  rcases zq1.mp hc with rfl | hc
  ·exact ⟨_,ha⟩
  ·exact StmsV.tracked h1 c hc
theorem StmsV.tracked:∀{xs:List V} {ss:List Stm} {f:List Addr},StmsV K H xs ss f->∀a∈f,∃zs,H a=some (.lst zs)
 |_,_,_,.nil,a,ha=>by cases ha
 |_,_,_,.cons h1 h2,a,ha=>by
  rcases zq10.mp ha with ha | ha
  ·exact StmV.tracked h1 a ha
  ·exact StmsV.tracked h2 a ha
end
theorem StmsV.get:∀{xs:List V} {ss:List Stm} {f:List Addr} {i:Nat} {x:V},StmsV K H xs ss f->xs[i]?=some x->∃s g,ss[i]?=some s/\StmV K H x s g/\∀a∈g,a∈f
 |_,_,_,_,_,.nil,e=>by simp at e
 |_,_,_,0,_,.cons h _,e=>by simp at e;subst e;exact zB _ _ rfl h fun a ha=>d9 _ ha
 |_,_,_,i+1,x,.cons _ t,e=>by obtain ⟨s,g,h1,h2,h3⟩:=StmsV.get (i:=i) (x:=x) t (by simpa using e);exact zB s g (by simpa using h1) h2 fun a ha=>cx _ (h3 a ha)
theorem gk{α:Type}{l₁ l₂:List α}(h1:l₁.Nodup)(h2:l₂.Nodup)(h:∀a∈l₁,a∉l₂):(l₁++l₂).Nodup:=by rw [vQ];exact zC h1 h2 fun a ha b hb e=>h a ha (by rw [e];exact hb)
end FS
namespace FP
open PySem L2 FB FS FA PyProof.Rows
variable {H:Hp}
inductive Kd where
 |all | iff | whl | els
 deriving DecidableEq
def Kd.str:Kd->Str
 | .all=>"all"
 | .iff=>"if"
 | .whl=>"while"
 | .els=>"else"
structure Ent where
 kind:Kd
 rows:List Stm
 name:Str
 ones:List Stm
def bB(e:Ent):Stm:=match e.kind with
 | .whl=>.whl e.name e.rows
 | .iff=>.ifs e.name e.rows []
 |_=>.ifs e.name e.ones e.rows
def Ent.add(e:Ent)(r:Stm):Ent:={e with rows:=e.rows++[r]}
def gg(r:Stm):List Ent->List Ent
 | []=>[]
 |e::es=>e.add r::es
def cN:List Ent->List Ent
 |e::e2::es=>e2.add (bB e)::es
 |es=>es
theorem b8{e e2:Ent}{es:List Ent}:(cN (e::e2::es)).length=es.length+1:=rfl
def bo:List Ent->List Stm
 | []=>[]
 | [e]=>e.rows
 |e::e2::es=>bo (e2.add (bB e)::es)
termination_by es=>es.length
def kd3(j:Int):Kd:=if j=1\/j=-2 then .whl else .iff
def c6(names:List Str)(w:Int)(most:Int)(k:Nat)(c:Int)(st:List Ent×Int):List Ent×Int:=
 if cc c k % 12<2/\1<st.1.length then
  (match st.1 with
   |e::es=>if cc c k % 12=0/\e.kind=.iff then ⟨.els,[],e.name,e.rows⟩::es else cN st.1
   | []=>[],st.2)
 else if st.2<most then
  (if cc c k % 12<5/\st.1.length<9/\¬names=[] then ⟨kd3 (cc c k % 12-2),[],eZ (cc c k / 12) names,[]⟩::st.1 else gg (.deed (cO (cc c k / 12) names w)) st.1,st.2+1)
 else st
def bF(names:List Str)(w most:Int):List Int->Nat->List Ent×Int->List Ent×Int
 | [],_,st=>st
 |c::cs,k,st=>bF names w most cs (k+1) (c6 names w most k c st)
theorem gx{names:List Str}{w most:Int}{c:Int}:∀{cs:List Int} {k:Nat} {st:List Ent×Int},bF names w most (cs++[c]) k st=c6 names w most (k+cs.length) c (bF names w most cs k st)
 | [],k,st=>rfl
 |d::cs,k,st=>by show bF names w most (cs++[c]) (k+1) _=_;rw [gx,cj,show k+1+cs.length=k+(cs.length+1) by omega];rfl
def start0:List Ent×Int:=([⟨.all,[],"",[]⟩],0)
def dC(cs:List Int)(names:List Str)(w most:Int):List Stm:=bo (bF names w most cs 0 start0).1
variable {K:W.Frag}
def EntV(K:W.Frag)(H:Hp)(x:V)(e:Ent)(g:List Addr):Prop:=∃(q r o:Addr)(ys zs:List V)(fr fo:List Addr),x=.ref q/\SqT K H q [.str e.kind.str,.ref r,.str e.name,.ref o]/\H r=some (.lst ys)/\StmsV K H ys e.rows fr/\H o=some (.lst zs)/\StmsV K H zs e.ones fo/\g=r::o::(fr++fo)
theorem EntV.keep{H':Hp}{x:V}{e:Ent}{g:List Addr}(t:TSame H H')(h:EntV K H x e g)(k:Kept g H H'):EntV K H' x e g:=by obtain ⟨q,r,o,ys,zs,fr,fo,ex,hq,hr,h1,ho,h2,rfl⟩:=h;exact zf q r o ys zs fr fo ex (t.seqT hq) (k r Jo _ hr) (h1.keep t k.tail.tail.left) (k o Jo _ ho) (h2.keep t k.tail.tail.right) rfl
inductive StkV (K:W.Frag) (H:Hp):List V->List Ent->List Addr->Prop where
 |nil:StkV K H [] [] []
 |snoc {xs:List V} {es:List Ent} {f g:List Addr} {x:V} {e:Ent}:StkV K H xs es f->EntV K H x e g->StkV K H (xs++[x]) (e::es) (g++f)
theorem StkV.keep{H':Hp}(t:TSame H H'):∀{xs:List V} {es:List Ent} {f:List Addr},StkV K H xs es f->Kept f H H'->StkV K H' xs es f
 |_,_,_,.nil,_=>.nil
 |_,_,_,.snoc h1 h2,k=>.snoc (StkV.keep t h1 k.right) (h2.keep t k.left)
theorem StkV.length:∀{xs:List V} {es:List Ent} {f:List Addr},StkV K H xs es f->xs.length=es.length
 |_,_,_,.nil=>rfl
 |_,_,_,.snoc h _=>by rw [zq8,cj,StkV.length h];rfl
theorem EntV.tracked{x:V}{e:Ent}{g:List Addr}(h:EntV K H x e g):∀a∈g,∃zs,H a=some (.lst zs):=by
 obtain ⟨q,r,o,ys,zs,fr,fo,ex,hq,hr,h1,ho,h2,rfl⟩:=h;intro a ha;rcases zq1.mp ha with rfl | ha
 ·exact ⟨_,hr⟩
 rcases zq1.mp ha with rfl | ha
 ·exact ⟨_,ho⟩
 rcases zq10.mp ha with ha | ha
 ·exact h1.tracked a ha
 ·exact h2.tracked a ha
theorem StkV.tracked:∀{xs:List V} {es:List Ent} {f:List Addr},StkV K H xs es f->∀a∈f,∃zs,H a=some (.lst zs)
 |_,_,_,.nil,a,ha=>by cases ha
 |_,_,_,.snoc h1 h2,a,ha=>by
  rcases zq10.mp ha with ha | ha
  ·exact h2.tracked a ha
  ·exact StkV.tracked h1 a ha
theorem StkV.inv{xs:List V}{e:Ent}{es:List Ent}{f:List Addr}(h:StkV K H xs (e::es) f):∃xs' x f' g,xs=xs'++[x]/\f=g++f'/\StkV K H xs' es f'/\EntV K H x e g:=by
 cases h with
 |snoc h1 h2=>exact zL _ _ _ _ (zH rfl rfl h1 h2)
theorem ie{α:Type}{xs:List α}{x:α}:atI (xs++[x]) (-1)=some x:=by
 unfold atI ixN;rw [if_neg Jm,if_pos (by simp;omega)];have e:(-1+((xs++[x]).length:Int)).toNat=xs.length:=by rw [zq8,fP];omega
 rw [e];simp
structure c9(K:W.Frag)(H0 H:Hp)(S:Addr)(es:List Ent)(B:Nat):Prop where
 same:Same H0 H
 at_:∃xs f,H S=some (.lst xs)/\StkV K H xs es f/\(S::f).Nodup/\∀a∈S::f,H0 a=none
 few:∀e∈es,e.rows.length<=B
theorem kT{H0 H:Hp}{S q r o:Addr}{xs zs:List V}{es:List Ent}{f fo:List Addr}{kind:Kd}{name:Str}{ones:List Stm}{B:Nat}(sm:Same H0 H)(hS:H S=some (.lst xs))(hK:StkV K H xs es f)(hr:H r=some (.lst []))(ho:H o=some (.lst zs))(hz:StmsV K H zs ones fo)
  (hq:SqT K H q [.str kind.str,.ref r,.str name,.ref o]) (nd:(S::((r::o::fo)++f)).Nodup) (fr:∀a∈S::((r::o::fo)++f),H0 a=none) (few:∀e∈es,e.rows.length<=B) :
  c9 K H0 (upd H S (.lst (xs++[.ref q]))) S (⟨kind,[],name,ones⟩::es) B:=by
 have nS:=(zq16.mp nd).1;have tt:TSame H (upd H S (.lst (xs++[V.ref q]))):=TSame.updL hS;refine ⟨sm.updM (fr S Jo),zD _ ((r::o::([]++fo))++f) upd_same (.snoc (hK.keep tt (Kept.upd fun z=>nS (by simp [z]))) (zf q r o ([]) zs ([]) fo rfl (tt.seqT hq) ?_ .nil ?_ (hz.keep tt (Kept.upd fun z=>nS (by simp [z]))) rfl)) nd fr,fun e he=>?_⟩
 ·rw [aC (fun z=>nS (by rw [<- z];simp))];exact hr
 ·rw [aC (fun z=>nS (by rw [<- z];simp))];exact ho
 ·rcases zq1.mp he with z | z
  ·subst z;exact ek _
  ·exact few e z
theorem tL{H:Hp}{S:Addr}{xs:List V}{c:Prop}[Decidable c]{k:Int}{A B:Prop}(hx:SqL K H S xs)(hA:c->k<xs.length->A)(hB:¬(c/\k<xs.length)->B):
  if decide c=true then ∃ys,(SqL K H S ys\/SqT K H S ys)/\if decide (k<(ys.length:Int))=true then A else B else B:=by
 by_cases h:c
 ·rw [decide_eq_true h,if_pos rfl];refine zA xs (.inl hx) ?_
  by_cases h2:k<(xs.length:Int)
  ·rw [decide_eq_true h2,if_pos rfl];exact hA h h2
  ·rw [decide_eq_false h2,if_neg zq3];exact hB fun z=>h2 z.2
 ·rw [decide_eq_false h,if_neg zq3];exact hB fun z=>h z.1
theorem xU{H:Hp}{S T:Addr}{xs ts:List V}{c:Prop}[Decidable c]{k l:Int}{A B:Prop}(hx:SqL K H S xs)(ht:SqL K H T ts)(hA:c->(xs.length:Int)<k->l<ts.length->A)(hB:¬(c/\(xs.length:Int)<k/\l<ts.length)->B):
  if decide c=true then ∃ys,(SqL K H S ys\/SqT K H S ys)/\if decide ((ys.length:Int)<k)=true then ∃zs,(SqL K H T zs\/SqT K H T zs)/\if decide (l<(zs.length:Int))=true then A else B else B else B:=by
 by_cases h:c
 ·rw [decide_eq_true h,if_pos rfl];refine zA xs (.inl hx) ?_
  by_cases h2:(xs.length:Int)<k
  ·rw [decide_eq_true h2,if_pos rfl];refine zA ts (.inl ht) ?_
   by_cases h3:l<(ts.length:Int)
   ·rw [decide_eq_true h3,if_pos rfl];exact hA h h2 h3
   ·rw [decide_eq_false h3,if_neg zq3];exact hB fun z=>h3 z.2.2
  ·rw [decide_eq_false h2,if_neg zq3];exact hB fun z=>h2 z.2.1
 ·rw [decide_eq_false h,if_neg zq3];exact hB fun z=>h z.1
theorem kd_if{k:Kd}:(k.str="if")↔k=.iff:=by cases k<;>decide +kernel
theorem mO{H:Hp}{S q:Addr}{xs:List V}{c:Prop}[Decidable c]{k:Kd}{r o:Addr}{n:Str}{A B:Hp->Prop}(hx:SqL K H S (xs++[.ref q]))(hq:SqT K H q [.str k.str,.ref r,.str n,.ref o])(hA:c->k=.iff->A H)(hB:¬(c/\k=.iff)->B H):
  if decide c=true then ∃xs v,SqL K H S xs/\atI xs (-1)=some v/\uu K v (V.int 0) H fun x H1=>rEq x (V.str "if") H1 fun x H'=>∃k,x=V.bl k/\if k=true then A H' else B H' else B H:=by
 by_cases h:c
 ·rw [decide_eq_true h,if_pos rfl];refine zB _ _ hx ie ?_;rw [rJ];refine zB _ _ hq rfl ?_;show jR (.str k.str) (.str "if")=true/\∃k_1,V.bl (decide (V.str k.str=V.str "if"))=V.bl k_1/\_;refine ⟨rfl,zA _ rfl ?_⟩
  by_cases hk:k=.iff
  ·rw [decide_eq_true (congrArg V.str (kd_if.mpr hk)),if_pos rfl];exact hA h hk
  ·rw [decide_eq_false (fun z=>hk (kd_if.mp (V.str.inj z))),if_neg zq3];exact hB fun z=>hk z.2
 ·rw [decide_eq_false h,if_neg zq3];exact hB fun z=>h z.1
theorem tV{j:Int}(h0:-2<=j)(h3:j<3):atI [V.str "if",V.str "while",V.str "if"] j=some (.str (kd3 j).str):=by
 have h:j=-2\/j=-1\/j=0\/j=1\/j=2:=by omega
 rcases h with rfl | rfl | rfl | rfl | rfl<;>rfl
end FP
namespace FS
open PySem L2 FB PyProof.Rows
variable {a b:List Stm}
theorem dZ{f k:Str}(h:f∈opsL)(hk:opsL.contains k=false):¬f=k:=by rintro rfl;rw [List.contains_eq_mem,decide_eq_false_iff_not] at hk;exact hk h
theorem kC{K:W.Frag}{H:Hp}{q:Addr}{d:Deed}{k:Str}{Z:V->Hp->Prop}(hf:d.fine)(hq:SqT K H q d.vs)(h1:opsL.contains k=false)(h2:¬("tell":Str)=k) (h3:¬("copy":Str)=k) (h:Z (.bl false) H):∃xs v,SqT K H q xs/\atI xs 0=some v/\rEq v (.str k) H Z:=by
 cases d with
 |tell a=>exact zD _ _ hq rfl rfl (by rw [decide_eq_false (fun z=>h2 (V.str.inj z))];exact h)
 |copy n a=>exact zD _ _ hq rfl rfl (by rw [decide_eq_false (fun z=>h3 (V.str.inj z))];exact h)
 |op f n a b=>exact zD _ _ hq rfl rfl (by rw [decide_eq_false (fun z=>dZ hf h1 (V.str.inj z))];exact h)
mutual
def Stm.deep:Stm->Nat
 | .deed _=>0
 | .ifs _ a b=>max (aO a) (aO b)+1
 | .whl _ a=>aO a+1
def aO:List Stm->Nat
 | []=>0
 |s::ss=>max s.deep (aO ss)
end
mutual
def Stm.many:Stm->Nat
 | .deed _=>1
 | .ifs _ a b=>aE a+aE b+1
 | .whl _ a=>aE a+1
def aE:List Stm->Nat
 | []=>0
 |s::ss=>s.many+aE ss
end
def Opd.good(ns:List Str)(w:Int):Opd->Prop
 | .box n=>n∈ns
 | .word i=>0<=i/\i<2 ^ w.toNat
def Deed.good(ns:List Str)(w:Int):Deed->Prop
 | .tell a=>Opd.good ns w a
 | .copy d a=>d∈ns/\Opd.good ns w a
 | .op f d a b=>f∈opsL/\d∈ns/\Opd.good ns w a/\Opd.good ns w b
mutual
def Stm.good(ns:List Str)(w:Int):Stm->Prop
 | .deed d=>Deed.good ns w d
 | .ifs n a b=>n∈ns/\bq ns w a/\bq ns w b
 | .whl n a=>n∈ns/\bq ns w a
def bq(ns:List Str)(w:Int):List Stm->Prop
 | []=>True
 |s::ss=>s.good ns w/\bq ns w ss
end
theorem iG(s:Stm):1<=s.many:=by cases s<;>simp [Stm.many]
theorem d4(ss:List Stm):ss.length<=aE ss:=by
 induction ss with
 |nil=>simp [aE]
 |cons s ss ih=>rw [aE,cj];have:=iG s;omega
theorem d5{s:Stm}{ss:List Stm}(h:s∈ss):s.many<=aE ss:=by
 induction ss with
 |nil=>cases h
 |cons x xs ih=>
  rw [aE];rcases zq1.mp h with z | z
  ·subst z;omega
  ·have:=ih z;omega
theorem ck{s:Stm}{ss:List Stm}(h:s∈ss):s.deep<=aO ss:=by
 induction ss with
 |nil=>cases h
 |cons x xs ih=>
  rw [aO];rcases zq1.mp h with z | z
  ·subst z;omega
  ·have:=ih z;omega
theorem gN:aO (a++b)=max (aO a) (aO b):=by
 induction a with
 |nil=>simp [aO]
 |cons s ss ih=>rw [k9,aO,aO,ih,Nat.max_assoc]
theorem bR:aE (a++b)=aE a+aE b:=by
 induction a with
 |nil=>simp [aE]
 |cons s ss ih=>rw [k9,aE,aE,ih];omega
theorem goodL_append{ns:List Str}{w:Int}:bq ns w (a++b)↔bq ns w a/\bq ns w b:=by
 induction a with
 |nil=>simp [bq]
 |cons s ss ih=>rw [k9,bq,bq,ih];exact and_assoc.symm
end FS
namespace FP
open PySem L2 FB FS FA PyProof.Rows
theorem iA{m:Int}{ns:List Str}{w:Int}:Deed.good ns w (cO m ns w):=by
 have og:∀k,Opd.good ns w (iQ k ns w):=fun k=>by
  unfold iQ
  split
  ·next h=>exact ec h.2
  ·have hp:(0:Int)<1 * 2 ^ w.toNat:=by rw [ri];exact Int.pow_pos Jm
   refine ⟨cI _ Jn,?_⟩;have:=dw (k / 3) hp;rw [ri] at this ⊢;exact this
 unfold cO
 split
 ·exact og _
 ·next h=>
  have hne:¬ns=[]:=fun z=>h (.inr z)
  split
  ·exact ⟨ec hne,og _⟩
  ·have hf:=eT (m:=m) (ns:=ns) (w:=w);unfold cO at hf;rw [if_neg h,if_neg (by assumption)] at hf;exact zH hf (ec hne) (og _) (og _)
structure pY(ns:List Str)(w:Int)(h:Nat)(e:Ent):Prop where
 d1:aO e.rows+h<=8
 d2:aO e.ones+h<=8
 g1:bq ns w e.rows
 g2:bq ns w e.ones
 nm:h≠0->e.name∈ns
def EsG(ns:List Str)(w:Int):List Ent->Prop
 | []=>True
 |e::es=>pY ns w es.length e/\EsG ns w es
def fR:List Ent->Nat
 | []=>0
 |e::es=>aE e.rows+aE e.ones+fR es
def dR(es:List Ent):Nat:=fR es+(es.length-1)
theorem iv{ns:List Str}{w:Int}{h:Nat}{e:Ent}(g:pY ns w (h+1) e):(bB e).good ns w/\(bB e).deep+h<=8/\(bB e).many<=aE e.rows+aE e.ones+1:=by
 have hn:=g.nm Jn;have h1:=g.d1;have h2:=g.d2;unfold bB
 cases e.kind
 ·exact zC (zC hn g.g2 g.g1) (by simp only [Stm.deep];omega) (by simp only [Stm.many];omega)
 ·exact zC (zC hn g.g1 trivial) (by simp only [Stm.deep,aO];omega) (by simp only [Stm.many,aE];omega)
 ·exact zC ⟨hn,g.g1⟩ (by simp only [Stm.deep];omega) (by simp only [Stm.many];omega)
 ·exact zC (zC hn g.g2 g.g1) (by simp only [Stm.deep];omega) (by simp only [Stm.many];omega)
theorem ic{ns:List Str}{w:Int}{h:Nat}{e:Ent}{s:Stm}(g:pY ns w h e)(hg:s.good ns w)(hd:s.deep+h<=8):pY ns w h (e.add s):=by have h1:=g.d1;refine ⟨?_,g.d2,goodL_append.mpr (zC g.g1 hg trivial),g.g2,g.nm⟩;show aO (e.rows++[s])+h<=8;rw [gN,aO,aO];omega
theorem dQ{ns:List Str}{w:Int}{e e2:Ent}{es:List Ent}(g:EsG ns w (e::e2::es)):EsG ns w (cN (e::e2::es))/\dR (cN (e::e2::es))<=dR (e::e2::es):=by obtain ⟨g1,g2,g3⟩:=g;obtain ⟨c1,c2,c3⟩:=iv (h:=es.length) g1;refine ⟨⟨ic g2 c1 c2,g3⟩,?_⟩;show fR (e2.add (bB e)::es)+_<=fR (e::e2::es)+_;simp only [fR,Ent.add,bR,aE,cN,List.length_cons];omega
theorem dz{ns:List Str}{w:Int}:∀{es:List Ent},EsG ns w es->bq ns w (bo es)/\aO (bo es)<=8/\aE (bo es)<=dR es
 | [],_=>by rw [bo];exact zC trivial (by simp [aO]) (by simp [aE])
 | [e],g=>by
  rw [bo];have:=g.1.d1;exact zC g.1.g1 (by simp at this;omega) (by simp only [dR,fR];omega)
 |e::e2::es,g=>by rw [bo];obtain ⟨h1,h2⟩:=dQ g;obtain ⟨h3,h4,h5⟩:=dz (es:=e2.add (bB e)::es) h1;exact zC h3 h4 (eO h5 h2)
termination_by es=>es.length
theorem jU{ns:List Str}{w most:Int}{k:Nat}{c:Int}{st:List Ent×Int}(g:EsG ns w st.1)(l1:1<=st.1.length)(l9:st.1.length<=9)(hc:(dR st.1:Int)<=st.2)(hm:st.2<=most):
  EsG ns w (c6 ns w most k c st).1/\1<=(c6 ns w most k c st).1.length/\(c6 ns w most k c st).1.length<=9/\(dR (c6 ns w most k c st).1:Int)<=(c6 ns w most k c st).2/\(c6 ns w most k c st).2<=most:=by
 obtain ⟨es,many⟩:=st;dsimp only at g l1 l9 hc hm;unfold c6;dsimp only
 split
 ·next h=>
  match es,h.2,g,l9,hc with
  |e::e2::es',_,g,l9,hc=>
   dsimp only
   split
   ·next hk=>
    refine zJ ⟨⟨?_,g.1.d1,trivial,g.1.g1,g.1.nm⟩,g.2⟩ Jo (by simpa using l9) ?_ hm
    ·have:=g.1.d1;simp only [aO];omega
    ·simp only [dR,fR,aE,List.length_cons] at hc ⊢;omega
   ·obtain ⟨h1,h2⟩:=dQ g;refine zJ h1 (by rw [b8];omega) (by rw [b8];simp at l9;omega) Jn hm
 ·split
  ·next h2=>
   dsimp only
   split
   ·next h3=>refine zJ ⟨⟨by simp only [aO];omega,by simp only [aO];omega,trivial,trivial,fun _=>ec h3.2.2⟩,g⟩ Jo (by simp;omega) ?_ Jn;simp only [dR,fR,aE,List.length_cons] at hc ⊢;omega
   ·match es,l1,g,l9,hc with
    |e::es',_,g,l9,hc=>refine zJ ⟨ic g.1 iA (by simp only [Stm.deep];simp at l9;omega),g.2⟩ (by simp [gg]) (by simpa [gg] using l9) ?_ Jn;simp only [dR,fR,gg,Ent.add,bR,aE,Stm.many,List.length_cons] at hc ⊢;omega
  ·exact zJ g l1 l9 hc hm
theorem gw{ns:List Str}{w most:Int}:∀{cs:List Int} {k:Nat} {st:List Ent×Int},EsG ns w st.1->1<=st.1.length->st.1.length<=9->(dR st.1:Int)<=st.2->st.2<=most->
  EsG ns w (bF ns w most cs k st).1/\(dR (bF ns w most cs k st).1:Int)<=most
 | [],_,_,g,_,_,hc,hm=>⟨g,by show (dR _:Int)<=_;exact Int.le_trans hc hm⟩
 |c::cs,k,st,g,l1,l9,hc,hm=>by obtain ⟨a1,a2,a3,a4,a5⟩:=jU (k:=k) (c:=c) g l1 l9 hc hm;show EsG ns w (bF ns w most cs (k+1) (c6 ns w most k c st)).1/\(dR (bF ns w most cs (k+1) (c6 ns w most k c st)).1:Int)<=most;exact gw a1 a2 a3 a4 a5
theorem jM{cs:List Int}{ns:List Str}{w most:Int}(h:0<=most):bq ns w (dC cs ns w most)/\aO (dC cs ns w most)<=8/\(aE (dC cs ns w most):Int)<=most:=by
 have z:EsG ns w start0.1:=⟨⟨by simp [start0,aO],by simp [start0,aO],trivial,trivial,fun z=>absurd rfl z⟩,trivial⟩
 obtain ⟨g,hc⟩:=gw (cs:=cs) (k:=0) (most:=most) z (by simp [start0]) (by simp [start0]) (by simp [start0,dR,fR,aE]) (by simpa [start0] using h);obtain ⟨h1,h2,h3⟩:=dz g;exact zC h1 h2 (by unfold dC;omega)
end FP
namespace L2
open PySem PySem.Spec PyProof.Rows
variable {H:Hp} {o:HO} {p:Addr}
def SameX(p:Addr)(H H':Hp):Prop:=∀c o,H c=some o->c≠p->H' c=some o
theorem SameX.trans{H1 H2:Hp}(a:SameX p H H1)(b:SameX p H1 H2):SameX p H H2:=fun c o e n=>b c o (a c o e n) n
theorem SameX.of{H':Hp}(s:Same H H'):SameX p H H':=fun c o e _=>s c o e
theorem SameX.upd:SameX p H (L2.upd H p o):=fun c u e n=>by rw [aC n];exact e
theorem SameX.free{c:Addr}{H':Hp}(s:SameX p H H')(hp:H' p=some o)(h:H' c=none):H c=none:=by
 cases e:H c with
 |none=>rfl
 |some u=>
  have n:c≠p:=fun z=>by subst z;rw [hp] at h;cases h
  rw [s c u e n] at h;cases h
theorem TSame.updI{C dx:Addr}{fs:List (Str×V)}(h:H p=some (.ins C dx fs)):TSame H (L2.upd H p o):=
 ⟨fun b xs e=>by rw [aC (fun z=>by rw [z,h] at e;cases e)];exact e,fun b u v e=>by rw [aC (fun z=>by rw [z,h] at e;cases e)];exact e⟩
end L2
namespace FS
open PySem L2 FB PyProof.Rows
def um(wd:Int)(a b r:Addr):List (Str×V):=[("width",.int wd),("ins",.ref a),("boxes",.ref b),("rows",.ref r)]
structure ProgAt(K:W.Frag)(C:Addr)(H:Hp)(p:Addr)(wd:Int)(ins oth:List Str)(ss:List Stm)(a b r:Addr)(xs:List V)(f:List Addr):Prop where
 ob:∃dx,H p=some (.ins C dx (um wd a b r))
 ia:H a=some (.lst (ins.map V.str))
 bx:H b=some (.lst ((ins++oth).map V.str))
 rs:H r=some (.lst xs)
 st:StmsV K H xs ss f
theorem ProgAt.same{K:W.Frag}{C:Addr}{H H':Hp}{p:Addr}{wd:Int}{ins oth:List Str}{ss:List Stm}{a b r:Addr}{xs:List V}{f:List Addr}(h:ProgAt K C H p wd ins oth ss a b r xs f)(s:Same H H'):ProgAt K C H' p wd ins oth ss a b r xs f:=
 ⟨let ⟨dx,e⟩:=h.ob;⟨dx,s _ _ e⟩,s _ _ h.ia,s _ _ h.bx,s _ _ h.rs,h.st.same s⟩
theorem bI{f:Str}{v:V}:∀{fs:List (Str×V)},(fs.map (·.1)).contains f=false->cu f v fs=fs++[(f,v)]
 | [],_=>rfl
 | (g,x)::r,h=>by
  rw [cG,List.contains_cons,Bool.or_eq_false_iff] at h;have n:¬g=f:=fun z=>by subst z;simp at h
  rw [show cu f v ((g,x)::r)=(if g=f then (g,v)::r else (g,x)::cu f v r) from rfl,if_neg n,bI h.2];rfl
end FS
namespace K01M
theorem tb(x w:Nat):x / 2 ^ w % 2=(x.testBit w).toNat:=by
 rw [Nat.testBit_eq_decide_div_mod_eq];have h:x / 2 ^ w % 2=0\/x / 2 ^ w % 2=1:=by omega
 rcases h with h | h<;>simp [h]
end K01M
namespace FO
open PySem L2 K01M FB PyProof.Rows
abbrev ops:List Str:=FB.opsL
end FO
namespace FR
open PySem L2 FB FS FG FO PyProof.Rows
end FR
namespace L2
open PySem PySem.Spec PyProof.Rows
section
variable {K:W.Frag} {te:TE} {ci:List Nat} {σ:St} {acc:Addr} {Q:Hp->Prop} {H1:Hp} {a:Addr} {xs:List V}
end
theorem gE{c:TT}{tb:TS}{D:cy}{σ:St}{H:Hp}(Pv:St->Hp->Prop)(μ:St->Hp->Nat)(h0:Pv σ H)
  (hs:∀σ H,Pv σ H->c σ H fun b H1=>if b=true then ∃N:St->Hp->Prop,(∀σ' H',N σ' H'->∃m',m'<μ σ H/\m'=μ σ' H'/\Pv σ' H')/\tb {D with nx:=N,ct:=N,bk:=D.nx} σ H1 else D.nx σ H1):pI c tb D σ H:=by
 refine zA (fun m σ H=>m=μ σ H/\Pv σ H) (zA _ rfl h0) ?_;rintro m σ H ⟨rfl,p⟩;exact hs σ H p
end L2
namespace FW
open PySem L2 FB FS FG FO FR PyProof.Rows
variable {n:Nat}
section
variable {K:W.Frag} {H:Hp}
theorem kE{v:V}(h:cC v=true)(e:eqV v v=true):Dq K H n v v true:=by have z:=Dq.flat (K:=K) (H:=H) (n:=n) h h;rw [e] at z;exact z
theorem n9{s:Str}:Dq K H n (.str s) (.str s) true:=kE rfl (by simp [eqV])
theorem oy(o:Opd):Dq K H n o.v o.v true:=by
 cases o with
 |box m=>exact n9
 |word i=>exact kE (v:=V.int i) rfl (by simp [eqV])
end
end FW
namespace FX
open PySem L2 FB FS FG FO FR FW PyProof.Rows
structure Nd where
 rd:List Str
 nm:Option Str
 ah:List Int
section
variable {n:Str} {N:List Nd} {v:Nat->Nat->Nat}
end
section
variable {S:List (List Str)}
end
end FX
namespace FX
open PySem L2 FB FS FG FO FR FW PyProof.Rows PySem.Spec
end FX
namespace L2
open PySem PySem.Spec PyProof.Rows
section
variable {X:Cx}
end
end L2
namespace GB
open PySem L2 FB FS FG FO FR FW FX PyProof.Rows
section
variable {K:W.Frag} {H:Hp}
def eqB(l l':List Stm):Bool:=@decide (l=l') (Classical.propDecidable _)
end
end GB
section
open PySem PySem.Spec PyProof.Rows
namespace HT
section
variable {prog:Program} {w:World} {A:Around} {E:Value->Shared->Prop} {s:Shared}
theorem dW{t sl:Addr}{items:Array Value}{vl vu:Value}{lo hi:Option Int}{Q:Value->Shared->Prop}
  (ht:IsTup s.heap t items) (hs:s.heap.IsSliceOf sl vl vu .none) (pl:IsPart vl lo) (pu:IsPart vu hi)
  (hl:sIx items.size 0 lo=0) (hh:sIx items.size items.size hi=items.size) (h:Q (.ref t) s) :
  wpAny (model prog w) A (getItem (.ref t) (.ref sl)) Q E s:=by
 have hTs:s.TypeIs (.ref sl) "slice":=by obtain ⟨os,hos,hcs,_⟩:=hs;exact zA os hos hcs
 unfold getItem
 try with_reducible refine wpAny_holding ?_
 try refine wpAny_bind (wpAny_pure ?_)
 refine wpAny_bind ?_;refine wpAny_sequenceKey ht.typeIs Jm ?_;refine wpAny_bind ?_;refine wpAny_callSpecial?_slot (name:=Str.ofString "__getitem__") ht.typeIs PyProof.Rows.slot_tuple_getitem ?_;refine wpAny_call_entry PyProof.Rows.slot_tuple_getitem ht.typeIs entry_tuple_getitem ?_ (args_tuple_getitem _ _);show wpAny _ _ (Builtin.Tuple.tupleItemsOf (.ref t) >>= _) _ _ s;refine wpAny_bind ?_;refine tupleItemsOf_ ht ?_;refine wpAny_bind ?_;refine wpAny_typeOf hTs ?_;rw [if_pos Jm];refine wpAny_bind ?_;refine cK hs pl pu ?_;have yes:(((sIx items.size 0 lo:Nat):Int)==0&&(1:Int)==1&&(sIx items.size items.size hi-sIx items.size 0 lo)==items.size)=true:=by rw [hl,hh];simp
 show wpAny _ _ (if (((sIx items.size 0 lo:Nat):Int)==0&&(1:Int)==1&&(sIx items.size items.size hi-sIx items.size 0 lo)==items.size)=true then _ else _) _ _ s;rw [if_pos yes];refine wpAny_bind ?_;unfold Builtin.Tuple.tupleIsExact;refine wpAny_bind ?_;refine wpAny_typeOf ht.typeIs ?_;refine wpAny_pure ?_;rw [if_pos Jm];refine wpAny_bind ?_;refine wpAny_rule ?_;exact wpAny_pure (zA _ rfl (wpAny_pure h))
end
end HT
namespace L2
section
variable {X:Cx}
def wK(K:W.Frag):V->Option Int->Option Int->Hp->VK->Prop:=fun x lo hi H Q=>wJ K x lo hi H Q\/
 ∃a xs,x=.ref a/\SqT K H a xs/\HT.sIx xs.length 0 lo=0/\HT.sIx xs.length xs.length hi=xs.length/\Q (.ref a) H
theorem l8:SlR X (wK X.K):=by
 intro pins s σ H x v vl vu lo hi sl Q I rx hs pl pu h;rcases h with h | ⟨a,xs,rfl,hx,h1,h2,q⟩
 ·exact vw pins s σ H x v vl vu lo hi sl Q I rx hs pl pu h
 ·cases rx
  obtain ⟨its,r,ht,hz⟩:=I.tuple hx;have hlen:its.toArray.size=xs.length:=by rw [cH];exact r.length.symm
  refine zB ("tuple") _ slot_tuple_getitem.lookup ht.typeIs ?_;refine HT.dW ht hs pl pu (by rw [hlen];exact h1) (by rw [hlen];exact h2) ?_;exact zB (.ref a) H I rfl q
end
end L2
namespace L2
section
variable {X:Cx}
def wD:List V->Hp->VK->Prop:=fun xs H Q=>∃(a C dx:Addr)(fs:List (Str×V)),xs=[.ref a,.ref C]/\H a=some (.ins C dx fs)/\Q (.bl true) H
theorem lJ:c4 X (.builtin "isinstance") wD:=by
 intro pins s σ H xs us Q I r h;obtain ⟨a,C,dx,fs,rfl,ha,q⟩:=h;obtain ⟨u,v,rfl,ru,rv⟩:=tH r
 cases ru
 cases rv
 obtain ⟨_,_,_,hob,_⟩:=I.hok _ _ ha;refine W.isi_call (K:=X.K) (t:=.ref C) I.kIn (fun M=>(W.Looks.ld hob).andThen .now) ?_ (fun e=>by cases e) (zB (.bl true) H I rfl q);unfold W.isIn;rw [show (Value.ref C==Value.ref C)=true from by simp,Bool.true_or]
end
end L2
namespace L2
section
variable {prog:Program} {w:World} {A:Around} {E:Value->Shared->Prop} {s:Shared}
end
end L2
namespace L2
section
variable {X:Cx}
end
end L2
namespace L2
section
variable {prog:Program} {w:World} {A:Around} {E:Value->Shared->Prop} {s:Shared}
end
section
variable {X:Cx}
end
section
variable {prog:Program} {w:World} {A:Around} {E:Value->Shared->Prop} {s:Shared} {l I S:Addr} {vs:List Value} {ln:Nat->Nat} {dv:Value} {R:Result->Shared->Prop}
end
section
variable {X:Cx}
end
end L2
namespace L2
section
variable {X:Cx}
end
end L2
namespace L2
def fF(l:List Str)(x:Str):List Str:=if x∈l then l else l++[x]
def bj(ns:List Str):List Str:=ns.foldl fF []
theorem fG(ns:List Str)(x:Str):bj (ns++[x])=fF (bj ns) x:=by unfold bj;rw [List.foldl_append];rfl
theorem gq{l:List Str}{x y:Str}:y∈fF l x↔y∈l\/y=x:=by
 unfold fF
 split
 ·next h=>exact ⟨.inl,fun z=>z.elim id fun e=>by rw [e];exact h⟩
 ·rw [zq10,zq9]
theorem eC(ns:List Str):(∀y,y∈bj ns↔y∈ns)/\(bj ns).length<=ns.length/\((bj ns).length=ns.length↔ns.Nodup):=by
 rw [<- List.reverse_reverse ns];generalize ns.reverse=ms
 induction ms with
 |nil=>exact zC (fun y=>Iff.rfl) (zq5 _) ⟨fun _=>List.nodup_nil,fun _=>rfl⟩
 |cons x m ih=>
  rw [List.reverse_cons];generalize m.reverse=l at ih ⊢;obtain ⟨h1,h2,h3⟩:=ih;rw [fG,zq8,fP];refine zC (fun y=>by rw [gq,h1,zq10,zq9]) ?_ ?_
  ·unfold fF;split
   ·omega
   ·rw [zq8,fP];omega
  ·rw [vQ];unfold fF
   split
   ·next h=>refine ⟨fun e=>absurd e Jn,fun ⟨_,_,z⟩=>absurd rfl (z x ((h1 x).mp h) x (zq9.mpr rfl))⟩
   ·next h=>rw [zq8,fP];refine ⟨fun e=>zC (h3.mp Jn) Jo fun a ha b hb e2=>h ?_,fun ⟨z,_,_⟩=>by rw [h3.mpr z]⟩;rw [zq9.mp hb] at e2;rw [<- e2];exact (h1 a).mpr ha
section
variable {prog:Program} {w:World} {A:Around} {R:Result->Shared->Prop} {it:Addr} {fp wr:List Addr} {G:Array GenState->Array GenState->Prop} {n:Nat} {P:Nat->Value->Prop} {St:Nat->Shared->Prop}
def TxtSet(prog:Program)(w:World)(h:Heap)(c:Addr)(l:List Str):Prop:=h.SetOf (strKind prog w) c (fun x=>decide (x∈l)) l.length
theorem TxtSet.mv{h h':Heap}{c:Addr}{l:List Str}(z:TxtSet prog w h c l)(k:∀o,h.get? c=some o->h'.get? c=some o):TxtSet prog w h' c l:=
 let ⟨o,es,ep,t,e,r⟩:=z;(zV o es ep t (k o e) r)
theorem iX(W:WalksS prog w A.in1 it fp wr G n P St){c:Addr}(hc:c∉fp){ns:List Str}(hn:ns.length=n)(hv:∀(i:Nat)v,P i v->∃x t,ns[i]?=some x/\v=.str x t)(hb:n+1<scanBound):
  ∀(k i:Nat)(s:Shared),k+i=n->St i s->TxtSet prog w s.heap c (bj (ns.take i))->(∀s',Moved (c::wr) G s s'->TxtSet prog w s'.heap c (bj ns)->R (.ok (.ret .none)) s')->
   codeAny (model prog w) A (.builtin "set.update.loop" ⟨[.ref c,.ref it],[]⟩) R s
 |0,i,s,hk,st,hS,q=>by
  obtain rfl:i=n:=by omega
  rw [show ns.take i=ns by rw [<- hn,f6]] at hS;refine codeAny_builtin F.entry_set_update_loop ?_;rw [Around.under_plainId F.plain_set_update_loop _];refine wpAny_bind (m:=pyNext (.ref it)) (W.done s _ _ st fun s1 mv=>wpAny_pure (q s1 (mv.mono fun b hb=>zq2 _ hb) (hS.mv fun o e=>mv.heap c o (fun z=>hc (W.sub _ z)) e)))
 |k+1,i,s,hk,st,hS,q=>by
  refine codeAny_builtin F.entry_set_update_loop ?_;rw [Around.under_plainId F.plain_set_update_loop _];refine wpAny_bind (m:=pyNext (.ref it)) (W.item i s _ _ Jn st fun v s1 hp st1 mv=>?_);obtain ⟨x,t,hx,rfl⟩:=hv i v hp;obtain ⟨hi,ex⟩:=zq19.mp hx;have hS1:=hS.mv (h':=s1.heap) fun o e=>mv.heap c o (fun z=>hc (W.sub _ z)) e;refine wpAny_bind (m:=holding [Value.str x t] (setAdd c (.str x t))) (wpAny_holding ?_);unfold setAdd;refine wpAny_holding (wpAny_bind ((strKind prog w).pyHash (k:=x) (strKind_is _ _ _ _) ?_));have le:=(eC (ns.take i)).2.1;rw [eP] at le;refine wpAny_setAddHashed_of (knd:=strKind prog w) (s:={s1 with toks:=s1.toks+1}) (strKind_is _ _ _ _) rfl hS1 Jn fun h2 sb hS2=>?_;have et:ns.take (i+1)=ns.take i++[x]:=by rw [fW hi,ex]
  have hS3:TxtSet prog w h2 c (bj (ns.take (i+1))):=by
   rw [et,fG];refine SetOf_congr hS2 (fun y=>?_) ?_
   ·rw [jg];simp only [Bool.or_eq_true,decide_eq_true_eq,gq]
   ·unfold fF
    by_cases z:x∈bj (ns.take i)
    ·rw [if_pos z,if_pos (decide_eq_true z)]
    ·rw [if_neg z,if_neg (by simpa using z),zq8,fP]
  refine wpAny_pure ⟨plainId_quiet F.plain_set_update_loop _,iX W hc hn hv hb k (i+1) _ Jn (W.frame _ s1 _ _ st1 (rf _) fun b hb o e=>?_) hS3 fun s3 mv3=>q s3 (Moved.trans W.gtrans ((mv.mono fun b hb=>zq2 _ hb).then_heap (rf _) fun b o hb e=>?_) mv3)⟩
  ·exact (sb.2 b (fun z=>hc (by rw [<- z];exact hb))).trans e
  ·exact (sb.2 b (fun z=>hb (by rw [z];exact zq4))).trans e
end
section
variable {prog:Program} {w:World} {A:Around} {E:Value->Shared->Prop} {s:Shared}
set_option maxHeartbeats 4000000 in
theorem nM{l:Addr}{items:Array Value}{ns:List Str}{Q:Value->Shared->Prop}(hh:A.handled=none)(hl:s.heap.IsList l items)(hv:∀(i:Nat)v,items[i]?=some v->∃x t,ns[i]?=some x/\v=.str x t)(hn:ns.length=items.size)(hb:items.size+1<scanBound)
  (q:∀(h':Heap)(tk:Nat),TxtSet prog w h' s.heap.objs.size (bj ns)->(∀b o,s.heap.get? b=some o->h'.get? b=some o)->Q (.ref s.heap.objs.size) {s with heap:=h',toks:=tk}) :
  wpAny (model prog w) A (call (.type "set") [.ref l]) Q E s:=by
 obtain ⟨c,tl,hmro⟩:=F.called_set.mro;have hmade:=F.called_set.made;have hsub:=F.called_set.sub;have h1:=F.called_set.notType;have h2:=F.called_set.canCreate;have hct:=F.typeCall_set_1 (.ref l);refine wpAny_call (codeAny_of_tree (show wpAny _ _ (callAny (.type "set") _) _ _ _ from wpAny_pure ⟨Code.quiet_builtin _ Jk,codeAny_builtin F.entry_type_call ?_⟩));rw [Around.under_plain (weight_type_call_type "set" [.ref l] []) rfl]
 repeat (any_goals (first | assumption | wp_step))
 refine codeAny_mono (code_set_new_1 (.ref l) (E:=E) (Q₁:=fun v s1=>∃led:Bool,v=.ref s.heap.objs.size/\s1={s with heap:=s.heap.push {cls:=.type "set",dict:=none,data:=.set #[] 0 (.fresh 0 0 led)}}) fun led=>zA led rfl rfl) fun r s1 hr=>?_
 match r,hr with
 | .ok (.ret v),hr=>
  obtain ⟨led,rfl,rfl⟩:=hr;obtain ⟨o0,ho0⟩:∃o0:Obj,o0={cls:=.type "set",dict:=none,data:=.set #[] 0 (.fresh 0 0 led)}:=⟨_,rfl⟩
  rw [<- ho0];have hS:(s.heap.push o0).get? s.heap.objs.size=some o0:=dM _ (by rw [ho0];rfl);have hT:Shared.TypeIs {s with heap:=s.heap.push o0} (.ref s.heap.objs.size) "set":=zA o0 hS (by rw [ho0])
  have hli:=F.called_set.init.lookup;have hbi:=F.called_set.init.bind (.ref s.heap.objs.size)
  repeat (any_goals (first | assumption | wp_step))
  refine codeAny_mono (codeAny_call_builtin (R:=wants (fun r s2=>r=.none/\∃h' tk,s2={s with heap:=h',toks:=tk}/\TxtSet prog w h' s.heap.objs.size (bj ns)/\∀b o,s.heap.get? b=some o->h'.get? b=some o) E) F.called_set.init.plain F.entry_set_init (check_set_init_1 hT ?_)) fun r2 s2 hr2=>?_
  ·obtain ⟨⟨oc,od,ot,os⟩,hol,hcl,nl,hdl⟩:=hl;replace hcl:oc=.type "list":=hcl;replace hdl:ot=.seq items nl:=hdl;subst hcl hdl;have hol2:(s.heap.push o0).get? l=some {cls:=.type "list",dict:=od,data:=.seq items nl,slots:=os}:=cw _ hol;have hsls:=F.sub_list_set;have hslf:=F.sub_list_frozenset;have hne:(Value.type "list"==Value.type "dict")=false:=by decide
   have hL:(s.heap.push o0).IsList l items:=zF _ hol2 rfl ⟨nl,rfl⟩
   have zp:(s.heap.push o0).objs.size=s.heap.objs.size+1:=rb ..;subst ho0;unfold Builtin.«set.__init__» noKeywords Builtin.Frozenset.updateFrom;generalize hPI:pyIter=PI
   wp_walk
   subst hPI;refine wpAny_pyIter_list hL ?_;refine wpAny_bind (wpAny_runValue ?_);have lt:l<s.heap.objs.size:=zq7 hol;refine iX ((Walks.list (by simp [hh]) _ l (by rw [zp];exact cA (Nat.lt_succ_of_lt lt)) items).toS) (c:=s.heap.objs.size) (by
    rw [zp];intro z;rcases zq1.mp z with z | z
    ·exact absurd z (cA (rc _))
    ·exact absurd (zq9.mp z) (vJ lt)) hn hv hb items.size 0 _ rfl ⟨zF _ (dM _ rfl) rfl rfl,hL.push _⟩ ?_ ?_
   ·exact SetOf_congr ((setObjOf_fresh (knd:=strKind prog w) led).setOf (cw _ hS) (by unfold scanBound;omega)) (fun y=>by simp [bj]) rfl
   ·intro s3 mv hS3;obtain ⟨h3,g3,d3,tk3,os3⟩:=s3;obtain rfl:g3=s.gens:=mv.gens;obtain rfl:d3=s.drawn:=mv.drawn;obtain rfl:os3=s.os:=mv.os;refine wpAny_pure ?_;refine wpAny_pure ⟨rfl,zB h3 tk3 rfl hS3 fun b o e=>?_⟩;have bl:=zq7 e;refine mv.heap b o ?_ (cw _ (cw _ e));rw [zp];intro z;rcases zq1.mp z with z | z
    ·exact absurd z (cA bl)
    ·exact absurd (zq9.mp z) (cA (Nat.lt_succ_of_lt bl))
  ·match r2,hr2 with
   | .ok (.ret v),hr2=>
    obtain ⟨rfl,h',tk,rfl,a1,a2⟩:=hr2
    repeat (any_goals (first | assumption | wp_step))
    exact q _ _ a1 a2
   | .error e,hr2=>exact hr2
 | .error e,hr=>exact hr
end
def iW(p:Addr)(n:Nat):HO:=.ext fun h=>n<scanBound/\∃o es ep t,h.get? p=some o/\o.ExactSet/\o.data=.set es ep t/\t.fits es.size=true/\es.size=n
variable {X:Cx}
def rH(K:W.Frag):List V->Hp->VK->Prop:=fun xs H Q=>∃(a:Addr)(ns:List Str),xs=[.ref a]/\SqL K H a (ns.map V.str)/\ns.length<64/\∀p:Addr,H p=none->Q (.ref p) (upd H p (iW p (bj ns).length))
theorem lL(hc:X.calm=true):c4 X (.type "set") (rH X.K):=by
 intro pins s σ H xs us Q I r h;obtain ⟨a,ns,rfl,hq,h64,q⟩:=h;obtain ⟨u,rfl,ru⟩:=cW r
 cases ru
 obtain ⟨its,rv,pl,_⟩:=I.list hq;have hl:=rv.length;rw [zq0] at hl;refine nM (I.ok.hd hc) pl.isList (ns:=ns) (fun i v hv=>?_) (by rw [cH];omega) (by rw [cH];unfold scanBound;omega) fun h' tk hS hk=>?_
 ·have hi:=(Array.getElem?_eq_some_iff.mp hv).1;rw [cH] at hi;obtain ⟨x,hx⟩:∃x,ns[i]?=some x:=⟨_,dc Jn⟩
  obtain ⟨u,hu,t,rfl⟩:=rv.get (i:=i) (x:=.str x) (by rw [da,hx];rfl);rw [xP,hu] at hv
  cases hv
  exact zE x t hx rfl
 ·obtain ⟨o,es,ep,t,e1,e2,e3,e4,e5,e6,e7,e8⟩:=hS;have le:=(eC ns).2.1;exact zB (.ref s.heap.objs.size) _ (I.laid (t':=tk) hk (zq5 _) (show ObjOk X.prog X.w _ h' _ (iW s.heap.objs.size (bj ns).length) from zC ⟨by unfold scanBound;omega,zX o es ep t e1 e2 e3 e7 e8⟩ ⟨o,e1⟩ fun h1 h2 ⟨z,o,es,ep,t,y1,y2⟩ k=>⟨z,zV o es ep t (k o y1) y2⟩)) rfl (q _ (I.hok.fresh (zq5 _)))
theorem v5{K:W.Frag}{a:Addr}{H:Hp}{Q:VK}:rH K [.ref a] H Q=∃ns:List Str,SqL K H a (ns.map V.str)/\ns.length<64/\∀p:Addr,H p=none->Q (.ref p) (upd H p (iW p (bj ns).length)):=propext ⟨by rintro ⟨_,ns,e,q⟩;cases e;exact ⟨ns,q⟩,by rintro ⟨ns,q⟩;exact zE a ns rfl q⟩
def rG:List V->Hp->VK->Prop:=fun xs H Q=>∃(p:Addr)(n:Nat),xs=[.ref p]/\H p=some (iW p n)/\Q (.int n) H
theorem lK:c4 X (.builtin "len") rG:=by
 intro pins s σ H xs us Q I r h;obtain ⟨p,n,rfl,e,q⟩:=h;obtain ⟨u,rfl,ru⟩:=cW r
 cases ru
 obtain ⟨⟨hn,o,es,ep,t,y1,y2,y3,y4,y5⟩,_⟩:=I.hok p _ e;unfold scanBound at hn;exact call_len_set y1 y2 y3 y4 Jn (zB (.int n) H (I.tok _) ⟨_,by rw [y5]⟩ q)
theorem uX{p:Addr}{H:Hp}{Q:VK}:rG [.ref p] H Q=∃n:Nat,H p=some (iW p n)/\Q (.int n) H:=propext ⟨by rintro ⟨_,n,e,q⟩;cases e;exact ⟨n,q⟩,by rintro ⟨n,q⟩;exact zE p n rfl q⟩
end L2
end
namespace GQ
open PySem
def J(c:Nat):List (List Nat)->List Nat
 | []=>[]
 | [p]=>p
 |p::q::r=>p++c::J c (q::r)
theorem jl(c:Nat):∀ts:List Str,(Str.join ⟨#[c]⟩ ts).cps.toList=J c (ts.map fun t=>t.cps.toList)
 | []=>rfl
 | [p]=>rfl
 |p::q::r=>by show ((p.cps++#[c])++(Str.join ⟨#[c]⟩ (q::r)).cps).toList=_;rw [vR,vR,jl c (q::r)];show _=p.cps.toList++c::J c ((q::r).map fun t=>t.cps.toList);rw [fX];rfl
theorem ku{c:Nat}:∀{a b u v:List Nat},c∉a->c∉b->a++c::u=b++c::v->a=b/\u=v
 | [],[],u,v,_,_,h=>⟨rfl,by injection h⟩
 | [],y::b,u,v,_,hb,h=>by
  injection h with h1 _;exact absurd (by rw [h1];exact zq4 ..) hb
 |x::a,[],u,v,ha,_,h=>by
  injection h with h1 _;exact absurd (by rw [<- h1];exact zq4 ..) ha
 |x::a,y::b,u,v,ha,hb,h=>by injection h with h1 h2;obtain ⟨e1,e2⟩:=ku (fun z=>ha (zq2 _ z)) (fun z=>hb (zq2 _ z)) h2;exact ⟨by rw [h1,e1],e2⟩
theorem rm{c:Nat}{p q:List Nat}{r:List (List Nat)}:c∈J c (p::q::r):=cx _ (zq4 ..)
theorem rl{c:Nat}:∀{ps qs:List (List Nat)},ps≠[]->qs≠[]->(∀p∈ps,c∉p)->(∀p∈qs,c∉p)->J c ps=J c qs->ps=qs
 | [],_,h,_,_,_,_=>absurd rfl h
 |_,[],_,h,_,_,_=>absurd rfl h
 | [p],[q],_,_,_,_,e=>by rw [show p=q from e]
 | [p],q::q2::r,_,_,h1,_,e=>by
  have z:c∈J c [p]:=by rw [e];exact rm
  exact absurd z (h1 p (zq4 ..))
 |p::p2::r,[q],_,_,_,h2,e=>by
  have z:c∈J c [q]:=by rw [<- e];exact rm
  exact absurd z (h2 q (zq4 ..))
 |p::p2::r,q::q2::s,_,_,h1,h2,e=>by obtain ⟨e1,e2⟩:=ku (h1 p (zq4 ..)) (h2 q (zq4 ..)) e;rw [e1,rl (List.cons_ne_nil _ _) (List.cons_ne_nil _ _) (fun x hx=>h1 x (zq2 _ hx)) (fun x hx=>h2 x (zq2 _ hx)) e2]
theorem toList_inj{a b:Str}(h:a.cps.toList=b.cps.toList):a=b:=by obtain ⟨x⟩:=a;obtain ⟨y⟩:=b;rw [show x=y from Array.toList_inj.mp h]
theorem kI:∀{ps qs:List Str},(ps.map fun t=>t.cps.toList)=(qs.map fun t=>t.cps.toList)->ps=qs
 | [],[],_=>rfl
 | [],_::_,h=>by cases h
 |_::_,[],h=>by cases h
 |p::ps,q::qs,h=>by injection h with h1 h2;rw [toList_inj h1,kI h2]
theorem pE{x y:Str}:Txt.split x y≠[]:=fun h=>by have:=PyProof.Rows.split_pos x y;rw [h] at this;exact absurd this Jm
theorem jT{c:Nat}{ts:List Str}(h0:ts≠[])(hf:∀p∈ts,c∉p.cps.toList):Txt.split (Str.join ⟨#[c]⟩ ts) ⟨#[c]⟩=ts:=by
 have e:=StrLaws.join_split (Str.join ⟨#[c]⟩ ts) ⟨#[c]⟩;have e2:=congrArg (fun s:Str=>s.cps.toList) e;rw [jl,jl] at e2;refine kI (rl (by simpa using pE) (by simpa using h0) (fun p hp=>?_) (fun p hp=>?_) e2)
 ·obtain ⟨t,ht,rfl⟩:=zq33.mp hp;exact StrLaws.split_free _ c t ht
 ·obtain ⟨t,ht,rfl⟩:=zq33.mp hp;exact hf t ht
end GQ
namespace L2
open PySem PySem.Spec PyProof.Rows
section
variable {X:Cx}
def uv:V->List V->Hp->VK->Prop:=fun x vs H Q=>∃z y:Str,x=.str z/\vs=[.str y]/\(y.length==0)=false/\z.length<=1000000/\∀l,H l=none->Q (.ref l) (upd H l (.lst ((Txt.split z y).map V.str)))
theorem gB:∀(l:List (Str×Tok)),Vals ((l.map (·.1)).map V.str) (strValues l)
 | []=>.nil
 |p::r=>.cons ⟨p.2,rfl⟩ (gB r)
theorem nQ:MtR X "str.split" uv:=by
 intro pins s σ H x vs v us Q I rx rv h;obtain ⟨z,y,rfl,rfl,hy,hz,q⟩:=h;obtain ⟨t,rfl⟩:=rx;obtain ⟨u,rfl,ru⟩:=rv.one;obtain ⟨t2,rfl⟩:=ru;have hs:z.length<=sizeLine:=by rw [sizeLine_eq];omega
 have hl:=split_le z y;have lay:∀(l:List (Str×Tok)) (k:Nat),l.map (·.1)=Txt.split z y->EP X pins σ Q (.ref s.heap.objs.size) {s with heap:=s.heap.push {cls:=.type "list",data:=.seq (strValues l).toArray},toks:=k}:=fun l k e=>by refine zB (.ref s.heap.objs.size) _ (I.laid (a:=s.heap.objs.size) (o:=.lst ((Txt.split z y).map V.str)) (t':=k) (fun _ _ g=>cw _ g) (zq5 _) ?_) rfl (q _ (I.hok.fresh (zq5 _)));exact ⟨by rw [zq0,sizeLine_eq];omega,zE _ 0 (by rw [<- e];exact gB l) (dM _ rfl)⟩
 cases h1:(decide (z.length<y.length) || decide (Builtin.Str.strKind z<Builtin.Str.strKind y)) with
 |true=>
  refine call_meets F.slot_str_split (typeIs_str _ _ _) F.entry_str_split (F.args_str_split_2 _ _) (meets_str_split_cannot_occur z y t t2 h1) ?_;exact lay [(z,t)] s.toks (by unfold Txt.split;rw [if_pos h1];rfl)
 |false=>
  cases hf:(Builtin.Str.occurrences z y 0 z.length (z.length+1)).isEmpty with
  |true=>
   refine call_meets F.slot_str_split (typeIs_str _ _ _) F.entry_str_split (F.args_str_split_2 _ _) (meets_str_split_not_found z y t t2 h1 hy hf) ?_;exact lay [(z,t)] s.toks (by unfold Txt.split;rw [h1,if_neg zq3,if_pos hf];rfl)
  |false=>
   have e:Txt.split z y=Builtin.Str.partsBetween z (Builtin.Str.occurrences z y 0 z.length (z.length+1)) y.length:=by unfold Txt.split;rw [h1,if_neg zq3,hf,if_neg zq3]
   refine call_meets F.slot_str_split (typeIs_str _ _ _) F.entry_str_split (F.args_str_split_2 _ _) (meets_str_split_sep z y t t2 h1 hy hf hs (by rw [<- e,sizeLine_eq];omega)) ?_;show wants _ _ _ {s with toks:=_,heap:=s.heap.push {cls:=.type "list",data:=.seq (strsFrom s.toks _).toArray}};rw [strsFrom_eq];exact lay (numbered s.toks _) _ ((numbered_texts _ _).trans e.symm)
theorem el:c4 X (.type "str") (fun xs H Q=>(∃i,xs=[.int i]/\i.natAbs.log2<1920/\Q (.str (toString i)) H)\/∃x,xs=[.str x]/\Q (.str x) H):=by
 intro pins s σ H xs us Q I r h;rcases h with ⟨i,rfl,hz,q⟩ | ⟨x,rfl,q⟩
 ·obtain ⟨u,rfl,t,rfl⟩:=cW r;exact PySem.P.str_of_int hz (zB (.str _) H (I.tok _) ⟨_,rfl⟩ q)
 ·obtain ⟨u,rfl,t,rfl⟩:=cW r;exact PySem.P.str_of_str (zB (.str _) H I ⟨_,rfl⟩ q)
theorem de:c4 X (.type "int") (fun xs H Q=>∃n:Int,xs=[.str (toString n)]/\0<=n/\n<10 ^ 10/\Q (.int n) H):=by intro pins s σ H xs us Q I r h;obtain ⟨n,rfl,h0,h1,q⟩:=h;obtain ⟨u,rfl,t,rfl⟩:=cW r;exact W.KIN.call_num h0 h1 (zB (.int _) H (I.tok _) ⟨_,rfl⟩ q)
end
end L2
namespace L2
open PySem PySem.Spec PyProof.Rows
def Its(x:Str):It:=⟨fun i _=>i<x.cps.size,fun i H v H'=>H'=H/\∃c,x.cps[i]?=some c/\v=.str ⟨#[c]⟩,fun i _=>x.cps.size<=i⟩
theorem pJ{P:Program}{w:World}{K:W.Frag}{tg:Expr}(x:Str)(t:Tok)(it:Addr):jo P w K tg (Its x) [it] it (fun i h=>h.IsStrIter it "str_ascii_iterator" x t i) where
 mem:=by simp
 obj:=fun i h st b hb=>by
  have e:b=it:=by simpa using hb
  subst e;obtain ⟨o,e,c,d⟩:=st;exact zA o e fun v z=>by rw [d] at z;cases z
 keep:=fun i h h' st k=>by obtain ⟨o,e,r⟩:=st;exact zA o (k it Jo o e) r
 item:=by intro X hP hw hK hc i pins s σ H E I hf st hg;subst hP hw hK;have hi:i<x.cps.size:=hg;obtain ⟨f0,f1,f2,f3,f4,f5⟩:=hf it Jo;have hx:x.cps[i]?=some x.cps[i]:=Array.getElem?_eq_getElem hi;refine wpAny_pyNext_ascii_item st hx fun h' st' sb=>?_;have I1:Inv X pins σ H {s with heap:=h',toks:=s.toks+1}:=I.turned (fun b o hb e=>(sb.2 b hb).trans e) f0 f1 f3 f4 f5;obtain ⟨o,e,c,d⟩:=id st';exact zA _ rfl (kG (s:={s with heap:=h',toks:=s.toks+1}) e c d Jm (zP (.str ⟨#[x.cps[i]]⟩) H I1 ⟨_,rfl⟩ ⟨rfl,zA _ hx rfl⟩ st' fun b hb=>(hf b hb).1))
 done:=by intro X hP hw hK hc i pins s σ H E I hf st hg;subst hP hw hK;have hi:x.cps.size<=i:=hg;obtain ⟨f0,f1,f2,f3,f4,f5⟩:=hf it Jo;exact wpAny_pyNext_ascii_end (I.ok.hd hc) st (Array.getElem?_eq_none hi) fun h' eb=>⟨rfl,I.turned (t':=s.toks) (fun b o hb e=>eb b o hb e) f0 f1 f3 f4 f5⟩
 self:=fun _ _ _ _ _ st h=>wpAny_pyIter_striter_ascii st h
def wn(tl:TE):TI:=fun σ H R=>tl σ H fun v H1=>∃x:Str,v=.str x/\x.cps.all (·<128)=true/\R (Its x) H1
theorem uL{tl:TE}{σ:St}{H:Hp}{R:It->Hp->Prop}:wn tl σ H R=tl σ H fun v H1=>∃x:Str,v=.str x/\x.cps.all (·<128)=true/\R (Its x) H1:=rfl
theorem lw{X:Cx}{tg l:Expr}{tl:TE}(hl:XE X l tl):XI X tg l (wn tl):=⟨by
 intro pins s σ H R I h;refine thn (hl.h pins s σ H _ I h) fun v s1 hhx=>?_;obtain ⟨y,H1,I1,r1,q1⟩:=hhx;obtain ⟨x,e,ha,q⟩:=q1;subst e;obtain ⟨t,rfl⟩:=r1;refine wpAny_pyIter_ascii ha ?_;refine ze s1.heap.objs.size ([s1.heap.objs.size]) _ _ H1 rfl (I1.kept (t':=s1.toks) fun b o e=>cw _ e) (pJ x t _) (zF _ (dM _ rfl) rfl rfl) (fun b hb=>?_) q;have e:b=s1.heap.objs.size:=by simpa using hb
 subst e;exact I1.fpOk (zq5 _) (I1.hok.fresh (zq5 _))⟩
section
variable {tt:TT} {te:TE} {ci:List Nat} {σ:St} {acc:Addr} {Q:Hp->Prop} {H1:Hp} {x:Str}
theorem ko(f:Nat->V)(hz:x.cps.size<=sizeLine)(hacc:H1 acc=none)
  (hf:∀(c:Nat)(H:Hp)(Q':VK),c∈x.cps.toList->(Q' (f c) H)->te (aT [some (.str ⟨#[c]⟩)] ci σ) H Q')
  (q:Q (upd H1 acc (.lst (x.cps.toList.map f)))):bP (Its x) (bp 1) mz te 1 ci σ acc Q (upd H1 acc (.lst [])):=by
 refine zA (fun i m ys H=>m=x.cps.size-i/\i<=x.cps.size/\ys=(x.cps.toList.take i).map f/\H=upd H1 acc (.lst ys)) (zG x.cps.size Jn (ek _) rfl rfl) ?_;rintro i m ys H ⟨rfl,hi,rfl,rfl⟩
 by_cases hlt:i<x.cps.size
 ·have hl:i<x.cps.toList.length:=by simpa using hlt
  refine .inr ⟨hlt,zA (fun ys H=>ys=(x.cps.toList.take (i+1)).map f/\H=upd H1 acc (.lst ys)) (fun ys' H' p'=>zG (x.cps.size-(i+1)) Jn rfl hlt p') fun y H' os ho yl=>?_⟩;obtain ⟨rfl,c,hc,rfl⟩:=yl;have e:(aT os ci σ).set 1 (some (V.str ⟨#[c]⟩))=aT [some (.str ⟨#[c]⟩)] ci σ:=by
   match os,ho with
   | [o],_=>rfl
  show (∃os',os'.length=1/\(aT os ci σ).set 1 (some (V.str ⟨#[c]⟩))=aT os' ci σ)/\mz ((aT os ci σ).set 1 (some (V.str ⟨#[c]⟩))) _ _;rw [e];refine ⟨zA _ rfl rfl,?_⟩;have hcl:x.cps.toList[i]?=some c:=by simpa using hc
  obtain ⟨_,hce⟩:=zq19.mp hcl;have et:(x.cps.toList.take (i+1)).map f=(x.cps.toList.take i).map f++[f c]:=by rw [fW hl,hce,zq6];rfl
  show te _ _ _;refine hf c _ _ (dN hcl) (zH upd_same (by rw [zq0,eP];omega) et.symm ?_);rw [du]
 ·have e:i=x.cps.size:=by omega
  subst e;refine .inl ⟨zq5 _,?_⟩;rw [pV Jo];exact q
end
end L2
namespace GT
open PySem L2 FA FB FS PyProof.Rows
variable {k n:Str}
def otx:Opd->Str
 | .box n=>n
 | .word i=>toString i
def dT:Deed->List Str
 | .tell o=>["tell",otx o]
 | .copy n o=>[n,"=",otx o]
 | .op k n o p=>[n,"=",otx o,k,otx p]
mutual
def sT(al:Bool):Stm->List (List Str)
 | .deed d=>[dT d]
 | .ifs n a b=>["if",n]::(lT al a++((if al || !b.isEmpty then [("else":Str)]::lT al b else [])++[[("end":Str)]]))
 | .whl n a=>["while",n]::(lT al a++[[("end":Str)]])
def lT(al:Bool):List Stm->List (List Str)
 | []=>[]
 |s::r=>sT al s++lT al r
end
theorem di{al:Bool}:∀{a b:List Stm},lT al (a++b)=lT al a++lT al b
 | [],_=>by rw [lT];rfl
 |s::a,b=>by rw [k9,lT,lT,di,fX]
def jn(ts:List Str):Str:=Str.join " " ts
def ln(al:Bool)(ss:List Stm):List Str:=(lT al ss).map jn
def hT(w:Int)(ins oth:List Str):List (List Str):=["width",toString w]::(ins.map (fun n=>[("in":Str),n])++oth.map fun n=>[("box":Str),n])
def LETS:Str:="abcdefghijklmnopqrstuvwxyz"
def FIGS:Str:="0123456789"
def bH(x:Str):Bool:=decide (1<=x.length)&&decide (x.length<=6)&&x.cps.toList.all fun c=>decide (97<=c/\c<=122)
def fE(x:Str):Bool:=decide (x≠"")&&(x.cps.toList.all fun c=>decide (48<=c/\c<=57))&&(decide (x="0") || decide (x.cps[0]?≠some 48))
def fQ(x:Str):Bool:=x.cps.all (·<128)
theorem mP{x:Str}(h:fQ x=true){c:Nat}(hc:c∈x.cps.toList):c<128:=by unfold fQ at h;rw [<- Array.all_toList] at h;exact of_decide_eq_true (zq34.mp h c hc)
theorem tM{x:Str}(h:∀c∈x.cps.toList,c<128):fQ x=true:=by unfold fQ;rw [<- Array.all_toList,zq34];exact fun c hc=>decide_eq_true (h c hc)
def okW(t:Str):Prop:=fQ t=true/\32∉t.cps.toList/\t.length<=20
theorem iK(h:bH n=true):1<=n.length/\n.length<=6/\∀c∈n.cps.toList,97<=c/\c<=122:=by unfold bH at h;rw [cR,cR] at h;exact zC (of_decide_eq_true h.1.1) (of_decide_eq_true h.1.2) fun c hc=>of_decide_eq_true (zq34.mp h.2 c hc)
theorem aV(h:bH n=true):okW n:=by obtain ⟨_,h2,h3⟩:=iK h;exact zC (tM fun c hc=>by have:=h3 c hc;omega) (fun hc=>by have:=h3 32 hc;omega) Jn
theorem fD(h:bH n=true):∃c r,n.cps.toList=c::r/\97<=c/\c<=122:=by
 obtain ⟨h1,_,h3⟩:=iK h
 cases hx:n.cps.toList with
 |nil=>
  have:n.length=n.cps.toList.length:=by rw [Array.length_toList];rfl
  rw [hx] at this;simp at this;omega
 |cons c r=>exact zE c r rfl (h3 c (by rw [hx];exact zq4 ..))
theorem nT(h:bH n=true):fE n=false:=by obtain ⟨c,r,hx,h1,_⟩:=fD h;unfold fE;rw [hx,rg,decide_eq_false (fun z:48<=c/\c<=57=>Jn),ib,vN,ib]
theorem gX(h:bH n=true):¬n="=":=fun z=>by
 obtain ⟨c,r,hx,h1,_⟩:=fD h;rw [z] at hx;have:(("=":Str).cps.toList)=[61]:=by decide +kernel
 rw [this] at hx
 cases hx
 omega
def rD(i:Nat):Bool:=fE (toString (i:Int))&&fQ (toString (i:Int))&&decide (32∉((toString (i:Int):Str)).cps.toList)&&decide ((toString (i:Int):Str).length<=20)&&decide (¬(toString (i:Int):Str)="=")
theorem xX:∀i,i<256->rD i=true:=by decide +kernel
theorem dm{i:Int}(h0:0<=i)(h1:i<256):fE (toString i)=true/\okW (toString i)/\¬(toString i:Str)="=":=by obtain ⟨n,rfl⟩:=ji h0;have z:=xX n Jn;unfold rD at z;rw [cR,cR,cR,cR] at z;exact zC z.1.1.1.1 (zC z.1.1.1.2 (of_decide_eq_true z.1.1.2) (of_decide_eq_true z.1.2)) (of_decide_eq_true z.2)
theorem gZ(m pl k:Int):∀j,(nm m pl k j).cps.toList=(List.range j).map fun i=>ltr (nU m pl k i)
 |0=>by show (("":Str).cps.toList)=[];decide +kernel
 |j+1=>by rw [nm,List.range_succ,zq6,<- gZ m pl k j];show ((nm m pl k j).cps++#[_]).toList=_;rw [vR];rfl
theorem qo(z:Int):97<=ltr z/\ltr z<=122:=by unfold ltr;have h0:0<=z % 26:=cI _ Jm;have h1:z % 26<26:=dw _ Jm;omega
theorem qr{m pl k:Int}{j:Nat}(h1:1<=j)(h6:j<=6):bH (nm m pl k j)=true:=by unfold bH;rw [jC,decide_eq_true h1,decide_eq_true h6,gZ,mH,mH,zq34];intro c hc;obtain ⟨i,_,rfl⟩:=zq33.mp hc;exact decide_eq_true (qo _)
theorem u6{m pl:Int}{k k2:Nat}{j:Nat}(p0:0<=pl)(pj:pl<j)(hk:k<8)(hk2:k2<8)(e:nm m pl k j=nm m pl k2 j):k=k2:=by
 have e1:=congrArg (fun s:Str=>s.cps.toList[pl.toNat]?) e;rw [gZ,gZ,da,da,List.getElem?_range Jn] at e1;have e2:ltr (nU m pl k pl.toNat)=ltr (nU m pl k2 pl.toNat):=by injection e1
 unfold nU ltr at e2;rw [Int.toNat_of_nonneg p0,decide_eq_true rfl,if_pos rfl] at e2;have a0:0<=(m / 36+pl * pl+1 * (k:Int)) % 26:=cI _ Jm;have b0:0<=(m / 36+pl * pl+1 * (k2:Int)) % 26:=cI _ Jm;generalize m / 36+pl * pl=q at e2 a0 b0;omega
theorem jB(c:Int):(bb c).length=8/\(bb c).Nodup/\∀n∈bb c,bH n=true:=by
 unfold bb
 split
 ·exact zC rfl Jk Jk
 ·have m0:=fB c 3;generalize cc c 3=m at m0;have z0:0<=m % 6:=cI _ Jm;have z1:m % 6<6:=dw _ Jm;have l0:0<=m / 6 % (1+m % 6):=cI _ Jn;have l1:m / 6 % (1+m % 6)<1+m % 6:=dw _ Jn;unfold nms;refine zC Jo ?_ ?_
  ·rw [List.Nodup,List.pairwise_map];refine List.Pairwise.imp_of_mem (fun {a b} ha hb hab e=>?_) (List.nodup_range (n:=8));exact hab (u6 l0 Jn (zq49.mp ha) (zq49.mp hb) e)
  ·intro n hn;obtain ⟨k,_,rfl⟩:=zq33.mp hn;exact qr Jn Jn
theorem cF{ns:List Str}{w:Int}{o:Opd}(hn:∀n∈ns,bH n=true)(hw:w<=8)(h:Opd.good ns w o):okW (otx o)/\¬otx o="=":=by
 cases o with
 |box n=>exact ⟨aV (hn n h),gX (hn n h)⟩
 |word i=>
  have p:(2:Int) ^ w.toNat<=2 ^ 8:=by exact_mod_cast pW Jm Jn
  have z:=dm h.1 (show i<256 by have:=h.2;omega);exact ⟨z.2.1,z.2.2⟩
theorem cT:∀t∈(["tell","=","if","else","end","while","plus","less","and","or","xor","below","same","width","in","box"]:List Str),okW t:=by
 unfold okW
 decide +kernel
theorem kO(h:k∈FB.opsL):okW k:=by
 refine cT k ?_;have:∀k∈FB.opsL,k∈(["tell","=","if","else","end","while","plus","less","and","or","xor","below","same","width","in","box"]:List Str):=by decide +kernel
 exact this k h
theorem rp{ns:List Str}{w:Int}{d:Deed}(hn:∀n∈ns,bH n=true)(hw:w<=8)(h:Deed.good ns w d):∀t∈dT d,okW t:=by
 intro t ht
 cases d with
 |tell o=>
  rcases zq1.mp ht with rfl | ht
  ·exact cT _ Jo
  rw [zq9.mp ht];exact (cF hn hw h).1
 |copy n o=>
  rcases zq1.mp ht with rfl | ht
  ·exact aV (hn _ h.1)
  rcases zq1.mp ht with rfl | ht
  ·exact cT _ Jo
  rw [zq9.mp ht];exact (cF hn hw h.2).1
 |op k n o p=>
  rcases zq1.mp ht with rfl | ht
  ·exact aV (hn _ h.2.1)
  rcases zq1.mp ht with rfl | ht
  ·exact cT _ Jo
  rcases zq1.mp ht with rfl | ht
  ·exact (cF hn hw h.2.2.1).1
  rcases zq1.mp ht with rfl | ht
  ·exact kO h.1
  rw [zq9.mp ht];exact (cF hn hw h.2.2.2).1
def okL(ts:List Str):Prop:=ts≠[]/\ts.length<=5/\∀t∈ts,okW t
theorem fM(hk:okW k)(hn:okW n):okL [k,n]:=⟨Jo,Jo,fun t ht=>by
 rcases zq1.mp ht with rfl | ht
 ·exact hk
 ·rw [zq9.mp ht];exact hn⟩
theorem jH(hk:okW k):okL [k]:=zC Jo Jo fun t ht=>by rw [zq9.mp ht];exact hk
mutual
theorem xq{ns:List Str}{w:Int}{al:Bool}(hn:∀n∈ns,bH n=true)(hw:w<=8):∀{s:Stm},s.good ns w->∀ts∈sT al s,okL ts
 | .deed d,h,ts,ht=>by
  rw [sT] at ht;rw [zq9.mp ht];refine zC (by cases d<;>simp [dT]) (by cases d<;>simp [dT]) (rp hn hw (by rw [Stm.good] at h;exact h))
 | .ifs n a b,h,ts,ht=>by
  rw [Stm.good] at h;rw [sT] at ht;rcases zq1.mp ht with rfl | ht
  ·exact fM (cT _ Jo) (aV (hn _ h.1))
  rcases zq10.mp ht with ht | ht
  ·exact iD hn hw h.2.1 ts ht
  rcases zq10.mp ht with ht | ht
  ·split at ht
   ·rcases zq1.mp ht with rfl | ht
    ·exact jH (cT _ Jo)
    ·exact iD hn hw h.2.2 ts ht
   ·cases ht
  ·rw [zq9.mp ht];exact jH (cT _ Jo)
 | .whl n a,h,ts,ht=>by
  rw [Stm.good] at h;rw [sT] at ht;rcases zq1.mp ht with rfl | ht
  ·exact fM (cT _ Jo) (aV (hn _ h.1))
  rcases zq10.mp ht with ht | ht
  ·exact iD hn hw h.2 ts ht
  ·rw [zq9.mp ht];exact jH (cT _ Jo)
theorem iD{ns:List Str}{w:Int}{al:Bool}(hn:∀n∈ns,bH n=true)(hw:w<=8):∀{ss:List Stm},bq ns w ss->∀ts∈lT al ss,okL ts
 | [],_,ts,ht=>by rw [lT] at ht;cases ht
 |s::r,h,ts,ht=>by
  rw [bq] at h;rw [lT] at ht;rcases zq10.mp ht with ht | ht
  ·exact xq hn hw h.1 ts ht
  ·exact iD hn hw h.2 ts ht
end
theorem wk{w:Int}{ins oth:List Str}(h0:0<=w)(h8:w<=8)(hn:∀n∈ins++oth,bH n=true):∀ts∈hT w ins oth,okL ts:=by
 intro ts ht;unfold hT at ht;rcases zq1.mp ht with rfl | ht
 ·exact fM (cT _ Jo) (dm h0 Jn).2.1
 rcases zq10.mp ht with ht | ht
 ·obtain ⟨n,hm,rfl⟩:=zq33.mp ht;exact fM (cT _ Jo) (aV (hn n (d9 _ hm)))
 ·obtain ⟨n,hm,rfl⟩:=zq33.mp ht;exact fM (cT _ Jo) (aV (hn n (cx _ hm)))
theorem w6:(" ":Str)=⟨#[32]⟩:=by decide +kernel
theorem nH{ts:List Str}(h:okL ts):Txt.split (jn ts) " "=ts:=by unfold jn;rw [w6];exact GQ.jT h.1 fun p hp=>(h.2.2 p hp).2.1
theorem iC:∀{ts:List Str},(∀t∈ts,t.length<=20)->(jn ts).length<=21 * ts.length
 | [],_=>by show (Str.join _ []).length<=_;exact vK rfl
 | [p],h=>by
  have:=h p (zq4 ..);show p.length<=_;simp;omega
 |p::q::r,h=>by
  have ih:=iC (ts:=q::r) fun t ht=>h t (zq2 _ ht);have hp:=h p (zq4 ..);have e:(jn (p::q::r)).length=p.length+1+(jn (q::r)).length:=by show ((p++(" ":Str))++jn (q::r)).length=_;rw [strLen_append,strLen_append];rfl
  rw [e,cj];omega
theorem tT{ts:List Str}(h:okL ts):(jn ts).length<=105:=by have:=iC (ts:=ts) fun t ht=>(h.2.2 t ht).2.2;have:=h.2.1;omega
theorem cJ(a b c:Str):(a++b)++c=a++(b++c):=by refine GQ.toList_inj ?_;show ((a.cps++b.cps)++c.cps).toList=(a.cps++(b.cps++c.cps)).toList;rw [Array.append_assoc]
theorem tU(k n:Str):jn [k,n]=(k++" ")++n:=rfl
theorem gi{l:Str}(h:k++" "=l) (n:Str):jn [k,n]=l++n:=by rw [tU,h]
theorem eqb:(" ":Str)++(("=":Str)++" ")=" = ":=by decide +kernel
theorem qm(n x:Str):jn [n,"=",x]=(n++" = ")++x:=by show (n++" ")++(("="++" ")++x)=_;rw [<- cJ,cJ n,eqb]
theorem wq(n x k y:Str):jn [n,"=",x,k,y]=((((n++" = ")++x)++" ")++k)++" "++y:=by show (n++" ")++(("="++" ")++((x++" ")++((k++" ")++y)))=_;rw [<- cJ,cJ n,eqb];simp only [cJ]
def NW(ns:List Str)(w:Int):Prop:=(∀n∈ns,bH n=true)/\0<=w/\w<=8
mutual
theorem jQ{al:Bool}:∀(s:Stm),(sT al s).length<=3 * s.many
 | .deed d=>by rw [sT,Stm.many];simp
 | .ifs n a b=>by
  have h1:=d0 (al:=al) a;have h2:=d0 (al:=al) b;rw [sT,Stm.many,cj,zq8,zq8,fP]
  split
  ·rw [cj];omega
  ·rw [vS];omega
 | .whl n a=>by have h1:=d0 (al:=al) a;rw [sT,Stm.many,cj,zq8,fP];omega
theorem d0{al:Bool}:∀(ss:List Stm),(lT al ss).length<=3 * aE ss
 | []=>by rw [lT];simp
 |s::r=>by have h1:=jQ (al:=al) s;have h2:=d0 (al:=al) r;rw [lT,aE,zq8];omega
end
end GT
namespace L2
open PySem PySem.Spec PyProof.Rows
variable {n:Nat} {xs ys:List Str}
section
variable {X:Cx} {K:W.Frag} {H:Hp}
theorem kF(hl:xs.length=ys.length):((List.range xs.length).all fun j=>decide (xs[j]?=ys[j]?))=decide (xs=ys):=by
 rw [jg,zq34,decide_eq_true_iff]
 constructor
 ·intro h;apply List.ext_getElem?;intro j
  by_cases hj:j<xs.length
  ·exact of_decide_eq_true (h j (zq49.mpr hj))
  ·rw [jj Jn,jj Jn]
 ·rintro rfl j _;exact decide_eq_true rfl
theorem kD:∀(j:Nat)x y,(xs.map V.str)[j]?=some x->(ys.map V.str)[j]?=some y->Dq K H n x y (decide (xs[j]?=ys[j]?)):=by
 intro j x y hx hy;rw [da] at hx hy;obtain ⟨i,hi,rfl⟩:=zq42.mp hx;obtain ⟨k,hk,rfl⟩:=zq42.mp hy;have e:decide (xs[j]?=ys[j]?)=eqV (.str i) (.str k):=by rw [hi,hk];show decide (some i=some k)=(i==k);rw [jg,decide_eq_true_iff];simp
 rw [e];exact .flat rfl rfl
theorem cD{a b:Addr}(ha:SqL K H a (xs.map V.str))(hb:SqL K H b (ys.map V.str)):Rq K H n (.ref a) (.ref b) (decide (xs=ys)):=by
 by_cases hl:xs.length=ys.length
 ·have z:=Rq.lists (n:=n) (fun j=>decide (xs[j]?=ys[j]?)) ha hb (by rw [zq0,zq0];exact hl) kD;rw [zq0,kF hl] at z;exact z
 ·rw [decide_eq_false (fun e=>hl (congrArg List.length e))];exact .lens ha hb (by rw [zq0,zq0];exact hl)
theorem dS{a b:Addr}(ne:a≠b)(ha:SqL K H a (xs.map V.str))(hb:SqL K H b (ys.map V.str)):Dq K H (n+1) (.ref a) (.ref b) (decide (xs=ys)):=by
 by_cases hl:xs.length=ys.length
 ·have z:=Dq.lists (n:=n) (fun j=>decide (xs[j]?=ys[j]?)) ne ha hb (by rw [zq0,zq0];exact hl) kD;rw [zq0,kF hl] at z;exact z
 ·rw [decide_eq_false (fun e=>hl (congrArg List.length e))];exact .lens ne ha hb (by rw [zq0,zq0];exact hl)
def qT(g:Addr->Bool):Value->Bool
 | .ref b=>g b
 |_=>false
theorem kc{g:Addr->Bool}:∀{as:List Addr} {us:List Value},Vals (as.map V.ref) us->us.any (qT g)=as.any g
 | [],_,.nil=>rfl
 |a::as,u::us,.cons r t=>by
  cases r
  rw [jh,jh,kc t];rfl
theorem kJ:∀{as:List Addr} {us:List Value},Vals (as.map V.ref) us->∀u∈us,∃b∈as,u=.ref b
 | [],_,.nil,u,h=>by cases h
 |a::as,v::us,.cons r t,u,h=>by
  rcases zq1.mp h with rfl | h
  ·cases r;exact zA a (zq4 ..) rfl
  ·obtain ⟨b,hb,e⟩:=kJ t u h;exact zA b (zq2 _ hb) e
def kX(K:W.Frag)(n:Nat):R2:=fun x y H Q=>∃(p:Addr)(as:List Addr)(g:Addr->Bool),y=.ref p/\SqT K H p (as.map V.ref)/\(∀b∈as,Dq K H n (.ref b) x (g b))/\Q (.bl (!as.any g)) H
theorem mf(hu:X.A.units+(n+1)<cLine):OpR X (compareOp .NotIn) (kX X.K n):=by
 intro pins s σ H x y v u Q I rx ry h;obtain ⟨p,as,g,rfl,hq,hd,q⟩:=h
 cases ry
 obtain ⟨its,r,pl,hz⟩:=I.tuple hq;refine SeqAt.notIn_tupleAt (qT g) pl (fun w hw=>?_) (zB (.bl _) H I rfl ?_)
 ·obtain ⟨b,hb,rfl⟩:=kJ r w (by simpa using hw);exact (hd b hb).at I rfl rx (by show X.A.units+1+n<cLine;omega)
 ·rw [show its.toArray.any (qT g)=its.any (qT g) by simp,kc r];exact q
end
def TupK(K:W.Frag)(p:Addr)(xs:List V):Prop:=∀H,SqT K H p xs
theorem TupK.mk{K:W.Frag}{p:Addr}{xs:List V}{o:Obj}{its:Array Value}(l:K.lookup p=some o)(hc:o.cls=.type "tuple") (hd:o.data=.seq its n) (hz:its.size<=sizeLine) (r:Vals xs its.toList):TupK K p xs:=fun H=>.inr (zQ o its n l hc hd hz r)
end L2
local macro_rules | `(tactic| simp_arith [$ts,*])=>`(tactic| simp only [L2.yx,L2.yb,L2.yy,L2.yc,L2.yz,L2.yd,L2.yA,L2.ye,L2.yB,L2.yf,L2.yC,L2.yg,L2.yD,L2.yh,L2.yE,L2.yi,L2.yF,L2.yj,L2.yG,L2.yk,L2.xF,L2.wY,L2.xG,L2.wZ,L2.xH,L2.x2,L2.xI,L2.x3,L2.r_c,L2.yp,L2.yt,L2.yw,L2.y_I,L2.y_U,L2.wU,L2.wV,L2.xc,L2.xf,L2.uH,L2.qJ,L2.v7,L2.r_B,L2.wM,L2.yq,L2.xh,L2.uw,L2.xi,L2.v2,L2.ym,L2.v1,L2.rN,L2.wQ,L2.uB,L2.xk,L2.x4,L2.wN,L2.y8,L2.xg,L2.uA,L2.uz,L2.xn,L2.xb,L2.yr,L2.oU,L2.v3,L2.uI,L2.qK,L2.x6,L2.yo,L2.yn,L2.uP,L2.uQ,L2.uR,L2.uS,L2.uT,L2.uU,L2.uV,L2.uW,L2.wX,L2.qL,L2.qM,L2.uM,L2.qN,L2.qO,L2.uC,L2.uD,L2.uE,L2.wW,L2.ya,L2.wO,L2.x9,L2.x8,L2.rJ,L2.wR,L2.xm,L2.oP,L2.xj,L2.uG,L2.uF,L2.uN,L2.uJ,true_and,and_true,forall_const,Int.reduceLT,L2.qH,L2.mq,L2.xo,L2.x5,L2.tP,L2.vF,L2.w9,L2.ux,L2.uy,List.map_cons,List.map_nil,List.getElem?_cons_zero,List.getElem?_cons_succ,Option.join_some,L2.y9,L2.uO,L2.qR,List.set_cons_zero,List.set_cons_succ,L2.rK,L2.v6,L2.uK,L2.uZ,L2.uY,L2.wL,L2.oR,L2.uL,L2.uX,L2.v5,$ts,*])
local macro_rules | `(tactic| rwa [$[$ts:term],*]) => `(tactic| simp_arith [$[$ts:term],*])
local macro_rules | `(∅) => `(by first | exact ⟨rfl,rfl,rfl,Jk,rfl,Jk,Jk⟩ | (intro vs H Q E h; first | (obtain ⟨h,_⟩ := h; cases h; rfl) | (obtain ⟨_,h,_⟩ := h; cases h; rfl) | (obtain ⟨_,_,h,_⟩ := h; cases h; rfl) | (obtain ⟨_,_,_,h,_⟩ := h; cases h; rfl) | (obtain ⟨_,_,_,_,h,_⟩ := h; cases h; rfl) | (obtain ⟨_,_,_,_,_,h,_⟩ := h; cases h; rfl)))
namespace K02
open PySem L2 PyProof.Rows FA FB FS FP GT
def top(i:Nat):Stmt:=PySem.Challenge.pw_deedloom_k02_programs_written.main.body.getD i (.Pass ⟨0,0,0,0⟩)
abbrev rP:Stmt:=bE (top 5) 0
theorem vb:aG ["self","width","ins","boxes","rows"] ["self","width","ins","boxes","rows"] (ax rP):=∅
abbrev rQ:Stmt:=top 6
theorem vc:aG ["rows"] ["rows"] (ax rQ):=∅
abbrev rR:Stmt:=top 7
theorem vd:aG ["row"] ["row"] (ax rR):=∅
abbrev rS:Stmt:=top 8
theorem sc_103:aG ["width","many","bit"] ["width"] (ax rS):=∅
abbrev rT:Stmt:=top 18
theorem sc_104:aG ["program","lines"] ["program"] (ax rT):=∅
abbrev rV:Stmt:=top 19
theorem sc_105:aG ["rows","lines","row"] ["rows"] (ax rV):=∅
abbrev rW:Stmt:=top 20
theorem sc_106:aG ["row","others"] ["row"] (ax rW):=∅
abbrev rX:Stmt:=top 21
theorem sc_107:aG ["deed","texts"] ["deed"] (ax rX):=∅
abbrev rY:Stmt:=top 22
theorem sc_108:aG ["lines","parted","width","ins","others","names","rows"] ["lines"] (ax rY):=∅
abbrev rZ:Stmt:=top 23
theorem sc_109:aG ["parted","text"] ["parted"] (ax rZ):=∅
abbrev sd:Stmt:=top 24
theorem sc_110:aG ["word","parted","start","names","words"] ["word","parted","start"] (ax sd):=∅
abbrev se:Stmt:=top 25
theorem ve:aG ["ins","names"] ["ins","names"] (ax se):=∅
abbrev sg:Stmt:=top 26
theorem vf:aG ["word"] ["word"] (ax sg):=∅
abbrev sj:Stmt:=top 27
theorem vg:aG ["word"] ["word"] (ax sj):=∅
abbrev sk:Stmt:=bE (top 28) 0
theorem vh:aG ["self","parted","width","names"] ["self","parted","width","names"] (ax sk):=∅
abbrev sq:Stmt:=bE (top 28) 1
theorem sc_115:aG ["self","rows"] ["self"] (ax sq):=∅
abbrev sr:Stmt:=bE (top 28) 2
theorem vi:aG ["self"] ["self"] (ax sr):=∅
abbrev su:Stmt:=bE (top 28) 3
theorem sc_117:aG ["self","depth","rows"] ["self","depth"] (ax su):=∅
abbrev sv:Stmt:=bE (top 28) 4
theorem sc_118:aG ["self","depth","words"] ["self","depth"] (ax sv):=∅
abbrev sy:Stmt:=bE (top 28) 5
theorem sc_119:aG ["self","words","name"] ["self","words"] (ax sy):=∅
abbrev sC:Stmt:=bE (top 28) 6
theorem sc_120:aG ["self","name","depth","ones","others"] ["self","name","depth"] (ax sC):=∅
abbrev sO:Stmt:=bE (top 28) 7
theorem sc_121:aG ["self","name","depth","rows"] ["self","name","depth"] (ax sO):=∅
abbrev sP:Stmt:=bE (top 28) 8
theorem vj:aG ["self","depth"] ["self","depth"] (ax sP):=∅
abbrev sQ:Stmt:=bE (top 28) 9
theorem vk:aG ["self"] ["self"] (ax sQ):=∅
abbrev sR:Stmt:=bE (top 28) 10
theorem vm:aG ["self","word"] ["self","word"] (ax sR):=∅
abbrev sS:Stmt:=bE (top 28) 11
theorem vn:aG ["self","word"] ["self","word"] (ax sS):=∅
abbrev sU:Stmt:=top 30
theorem vo:aG ["_law_found"] ["_law_found"] (ax sU):=∅
abbrev sV:Stmt:=top 31
theorem sc_127:aG ["_law_cell","_law_k","_law_number"] ["_law_cell","_law_k"] (ax sV):=∅
abbrev sW:Stmt:=top 32
theorem sc_128:aG ["_law_cell","_law_letters","_law_mixed_here","_law_size","_law_place","_law_names_here","_law_k","_law_name","_law_j","_law_at"] ["_law_cell"] (ax sW):=∅
abbrev sX:Stmt:=top 33
theorem vp:aG ["_law_mixed_here","_law_names_here","_law_width"] ["_law_mixed_here","_law_names_here","_law_width"] (ax sX):=∅
abbrev sY:Stmt:=top 34
theorem sc_130:aG ["_law_mixed_here","_law_names_here","_law_width","_law_one","_law_name","_law_op"] ["_law_mixed_here","_law_names_here","_law_width"] (ax sY):=∅
abbrev sZ:Stmt:=top 35
theorem vq:aG ["_law_stack","_law_row"] ["_law_stack","_law_row"] (ax sZ):=∅
abbrev t7:Stmt:=top 36
theorem sc_132:aG ["_law_stack","_law_kind","_law_rows","_law_name","_law_ones"] ["_law_stack"] (ax t7):=∅
abbrev t8:Stmt:=top 37
theorem sc_133:aG ["_law_cells","_law_names_here","_law_width","_law_most","_law_stack","_law_many","_law_k","_law_cell","_law_mixed_here","_law_way","_law_kind","_law_rows","_law_name","_law_ones"] ["_law_cells","_law_names_here","_law_width","_law_most"] (ax t8):=∅
abbrev t9:Stmt:=top 38
theorem sc_134:aG ["_law_rows","_law_always","_law_lines_here","_law_row"] ["_law_rows","_law_always"] (ax t9):=∅
abbrev tf:Stmt:=top 39
theorem vt:aG ["_law_width","_law_ins","_law_others"] ["_law_width","_law_ins","_law_others"] (ax tf):=∅
abbrev ti:Stmt:=top 40
theorem sc_136:aG ["_law_found","_law_due","_law_k","_law_j"] ["_law_found","_law_due"] (ax ti):=∅
abbrev tj:Stmt:=top 41
theorem vv:aG ["_law_found","_law_width","_law_ins","_law_others","_law_rows"] ["_law_found","_law_width","_law_ins","_law_others","_law_rows"] (ax tj):=∅
abbrev tm:Stmt:=top 42
theorem sc_138:aG ["_law_rows","_law_row"] ["_law_rows"] (ax tm):=∅
abbrev tq:Stmt:=top 43
theorem sc_139:aG ["_law_script","_law_cells","_law_first","_law_width","_law_ins","_law_others","_law_rows","_law_given","_law_lists","_law_program_here","_law_due","_law_found","_law_handed","_law_again"] ["_law_script"] (ax tq):=∅
set_option genInjectivity false in
structure Ad where
 k_LETTERS:Tok
 k_FIGURES:Tok
 k_LONGEST_NAME:Tok
 k_GREATEST_WIDTH:Tok
 k_MOST_INS:Tok
 k_MOST_BOXES:Tok
 k_MOST_STATEMENTS:Tok
 k_MOST_DEEP:Tok
 O_OPS:Addr
 C_Program:Addr
 C_RowReader:Addr
 f_100:Addr
 e_100:FuncData
 f_101:Addr
 e_101:FuncData
 f_102:Addr
 e_102:FuncData
 f_103:Addr
 e_103:FuncData
 f_104:Addr
 e_104:FuncData
 f_105:Addr
 e_105:FuncData
 f_106:Addr
 e_106:FuncData
 f_107:Addr
 e_107:FuncData
 f_108:Addr
 e_108:FuncData
 f_109:Addr
 e_109:FuncData
 f_110:Addr
 e_110:FuncData
 f_111:Addr
 e_111:FuncData
 f_112:Addr
 e_112:FuncData
 f_113:Addr
 e_113:FuncData
 f_114:Addr
 e_114:FuncData
 f_115:Addr
 e_115:FuncData
 f_116:Addr
 e_116:FuncData
 f_117:Addr
 e_117:FuncData
 f_118:Addr
 e_118:FuncData
 f_119:Addr
 e_119:FuncData
 f_120:Addr
 e_120:FuncData
 f_121:Addr
 e_121:FuncData
 f_122:Addr
 e_122:FuncData
 f_123:Addr
 e_123:FuncData
 f_124:Addr
 e_124:FuncData
 f_125:Addr
 e_125:FuncData
 f_126:Addr
 e_126:FuncData
 f_127:Addr
 e_127:FuncData
 f_128:Addr
 e_128:FuncData
 f_129:Addr
 e_129:FuncData
 f_130:Addr
 e_130:FuncData
 f_131:Addr
 e_131:FuncData
 f_132:Addr
 e_132:FuncData
 f_133:Addr
 e_133:FuncData
 f_134:Addr
 e_134:FuncData
 f_135:Addr
 e_135:FuncData
 f_136:Addr
 e_136:FuncData
 f_137:Addr
 e_137:FuncData
 f_138:Addr
 e_138:FuncData
 f_139:Addr
 e_139:FuncData
structure Txt(K:W.Frag)(mg:Str->Option Value)(t:Ad):Prop where
 g_LETTERS:mg "LETTERS"=some (.str "abcdefghijklmnopqrstuvwxyz" t.k_LETTERS)
 g_FIGURES:mg "FIGURES"=some (.str "0123456789" t.k_FIGURES)
 g_LONGEST_NAME:mg "LONGEST_NAME"=some (.int 6 t.k_LONGEST_NAME)
 g_GREATEST_WIDTH:mg "GREATEST_WIDTH"=some (.int 8 t.k_GREATEST_WIDTH)
 g_MOST_INS:mg "MOST_INS"=some (.int 4 t.k_MOST_INS)
 g_MOST_BOXES:mg "MOST_BOXES"=some (.int 8 t.k_MOST_BOXES)
 g_MOST_STATEMENTS:mg "MOST_STATEMENTS"=some (.int 40 t.k_MOST_STATEMENTS)
 g_MOST_DEEP:mg "MOST_DEEP"=some (.int 8 t.k_MOST_DEEP)
 g_OPS:mg "OPS"=some (.ref t.O_OPS)
 o_OPS:TupK K t.O_OPS [.str "plus",.str "less",.str "and",.str "or",.str "xor",.str "below",.str "same"]
 c_Program:KlsAt K mg "Program" t.C_Program
 n_Program_width:NoAttr K t.C_Program "width"
 n_Program_ins:NoAttr K t.C_Program "ins"
 n_Program_boxes:NoAttr K t.C_Program "boxes"
 n_Program_rows:NoAttr K t.C_Program "rows"
 c_RowReader:KlsAt K mg "RowReader" t.C_RowReader
 n_RowReader_parted:NoAttr K t.C_RowReader "parted"
 n_RowReader_words_many:NoAttr K t.C_RowReader "words_many"
 n_RowReader_names:NoAttr K t.C_RowReader "names"
 n_RowReader_place:NoAttr K t.C_RowReader "place"
 n_RowReader_statements_many:NoAttr K t.C_RowReader "statements_many"
 d_100:bi K t.C_Program "__init__" "Program.__init__" rP ["self","width","ins","boxes","rows"] t.f_100 t.e_100
 d_101:b7 K mg "copied" rQ ["rows"] t.f_101 t.e_101
 d_102:b7 K mg "copied_row" rR ["row"] t.f_102 t.e_102
 d_103:b7 K mg "word_count" rS ["width"] t.f_103 t.e_103
 d_104:b7 K mg "shown" rT ["program"] t.f_104 t.e_104
 d_105:b7 K mg "lines_of" rV ["rows"] t.f_105 t.e_105
 d_106:b7 K mg "row_lines" rW ["row"] t.f_106 t.e_106
 d_107:b7 K mg "deed_line" rX ["deed"] t.f_107 t.e_107
 d_108:b7 K mg "read" rY ["lines"] t.f_108 t.e_108
 d_109:b7 K mg "read_width" rZ ["parted"] t.f_109 t.e_109
 d_110:b7 K mg "names_behind" sd ["word","parted","start"] t.f_110 t.e_110
 d_111:b7 K mg "judge_names" se ["ins","names"] t.f_111 t.e_111
 d_112:b7 K mg "is_name" sg ["word"] t.f_112 t.e_112
 d_113:b7 K mg "is_number" sj ["word"] t.f_113 t.e_113
 d_114:bi K t.C_RowReader "__init__" "RowReader.__init__" sk ["self","parted","width","names"] t.f_114 t.e_114
 d_115:bi K t.C_RowReader "all_rows" "RowReader.all_rows" sq ["self"] t.f_115 t.e_115
 d_116:bi K t.C_RowReader "line_ahead" "RowReader.line_ahead" sr ["self"] t.f_116 t.e_116
 d_117:bi K t.C_RowReader "rows_within" "RowReader.rows_within" su ["self","depth"] t.f_117 t.e_117
 d_118:bi K t.C_RowReader "next_row" "RowReader.next_row" sv ["self","depth"] t.f_118 t.e_118
 d_119:bi K t.C_RowReader "assignment" "RowReader.assignment" sy ["self","words"] t.f_119 t.e_119
 d_120:bi K t.C_RowReader "if_row" "RowReader.if_row" sC ["self","name","depth"] t.f_120 t.e_120
 d_121:bi K t.C_RowReader "while_row" "RowReader.while_row" sO ["self","name","depth"] t.f_121 t.e_121
 d_122:bi K t.C_RowReader "deeper_rows" "RowReader.deeper_rows" sP ["self","depth"] t.f_122 t.e_122
 d_123:bi K t.C_RowReader "pass_end" "RowReader.pass_end" sQ ["self"] t.f_123 t.e_123
 d_124:bi K t.C_RowReader "operand" "RowReader.operand" sR ["self","word"] t.f_124 t.e_124
 d_125:bi K t.C_RowReader "box_name" "RowReader.box_name" sS ["self","word"] t.f_125 t.e_125
 d_126:b7 K mg "_law_whole" sU ["_law_found"] t.f_126 t.e_126
 d_127:b7 K mg "_law_mixed" sV ["_law_cell","_law_k"] t.f_127 t.e_127
 d_128:b7 K mg "_law_names" sW ["_law_cell"] t.f_128 t.e_128
 d_129:b7 K mg "_law_operand" sX ["_law_mixed_here","_law_names_here","_law_width"] t.f_129 t.e_129
 d_130:b7 K mg "_law_deed" sY ["_law_mixed_here","_law_names_here","_law_width"] t.f_130 t.e_130
 d_131:b7 K mg "_law_into" sZ ["_law_stack","_law_row"] t.f_131 t.e_131
 d_132:b7 K mg "_law_closed" t7 ["_law_stack"] t.f_132 t.e_132
 d_133:b7 K mg "_law_program" t8 ["_law_cells","_law_names_here","_law_width","_law_most"] t.f_133 t.e_133
 d_134:b7 K mg "_law_lines" t9 ["_law_rows","_law_always"] t.f_134 t.e_134
 d_135:b7 K mg "_law_head" tf ["_law_width","_law_ins","_law_others"] t.f_135 t.e_135
 d_136:b7 K mg "_law_same_rows" ti ["_law_found","_law_due"] t.f_136 t.e_136
 d_137:b7 K mg "_law_alike" tj ["_law_found","_law_width","_law_ins","_law_others","_law_rows"] t.f_137 t.e_137
 d_138:b7 K mg "_law_emptied" tm ["_law_rows"] t.f_138 t.e_138
 d_139:b7 K mg "law" tq ["_law_script"] t.f_139 t.e_139
 z_range:mg "range"=none
 z_isinstance:mg "isinstance"=none
 z_int:mg "int"=none
 z_bool:mg "bool"=none
 z_enumerate:mg "enumerate"=none
 z_len:mg "len"=none
 z_str:mg "str"=none
 z_list:mg "list"=none
 z_tuple:mg "tuple"=none
 z_all:mg "all"=none
 z_set:mg "set"=none
theorem vD{K:W.Frag}{O:Addr}{t0 t1 t2 t3 t4 t5 t6:Tok}{ep:Nat}{dd:Option Addr}{sl:Array (Option Value)}(l:K.lookup O=some ⟨.type "tuple",dd,.seq #[.str "plus" t0,.str "less" t1,.str "and" t2,.str "or" t3,.str "xor" t4,.str "below" t5,.str "same" t6] ep,sl⟩):TupK K O [.str "plus",.str "less",.str "and",.str "or",.str "xor",.str "below",.str "same"]:=TupK.mk l rfl rfl (show 7<=sizeLine by rw [sizeLine_eq];decide) (.cons ⟨_,rfl⟩ (.cons ⟨_,rfl⟩ (.cons ⟨_,rfl⟩ (.cons ⟨_,rfl⟩ (.cons ⟨_,rfl⟩ (.cons ⟨_,rfl⟩ (.cons ⟨_,rfl⟩ (.nil))))))))
variable {H:Hp} {u:TS}
def mN(u:TS)(D:cy):L2.St->Hp->Prop:=u D
theorem aH{D:cy}{σ:L2.St}(h:u D σ H):mN u D σ H:=h
theorem v4{t:TS}{D:cy}{σ:L2.St}:vA t u D σ H=t {D with nx:=mN u D} σ H:=rfl
theorem v0{t:TS}{D:cy}{σ:L2.St}:vy t u D σ H=∃Mid:L2.St->Hp->Prop,t {D with nx:=Mid} σ H/\∀σ' H',Mid σ' H'->mN u D σ' H':=rfl
end K02
local macro_rules | `(tactic| simp_arith! [$ts,*])=>`(tactic| simp_arith [-L2.rN,-L2.rK,K02.v4,K02.v0,$ts,*])
namespace K02
open PySem L2 PyProof.Rows FA FB FS FP GT
def sp_law(K:W.Frag):Sp:=fun vs H Q _=>∃(a:Addr)(ns:List Int),vs=[.ref a]/\SqL K H a (ns.map V.int)/\ns.length<=63/\(∀z∈ns,Builtin.Int.intBits z<=2 ^ 20)/\∀H',Q (.bl true) H'
def ja(K:W.Frag):Sp:=fun vs H Q _=>∃(x:V)(k:String),vs=[x]/\dy K H x k/\Q (.bl (decide (k="int"))) H
section
variable {P:Program} {w:World} {K:W.Frag} {mg:Str->Option Value} {base:Heap} {t:Ad}
theorem ow(T:Txt K mg t):FnOk P w K mg base CX0 1 t.f_126 t.e_126 ["_law_found"] (ja K):=by
 refine T.d_126.F.ok vo ∅ ?_;rintro cdv A outer s H vs Q E hr ⟨x,k,rfl,hk,q⟩;refine ⟨_,
   (XSs.h
   (af
    (ay (fj (av bQ gl T.z_isinstance boot_isinstance (aa (yqv 0 vl) (aa (bV (v:=.ty "int") gl T.z_int boot_int rfl) ab))) (fm (qX (av bQ gl T.z_isinstance boot_isinstance (aa (yqv 0 vl) (aa (bV (v:=.ty "bool") gl T.z_bool boot_bool rfl) ab))))))))),?_⟩
 rw [show start _ [x]=[some x] from rfl];rwa [];refine zK x ("int") k rfl Jk hk (zA _ rfl (nF (fun e=>zK x ("bool") k rfl Jk hk (zA _ rfl ?_)) (fun e=>?_)))
 ·have h:k="int"\/k="bool":=by
   unfold gT at e;rw [pT,cR] at e;rcases e with e | e
   ·exact .inl (by simpa using e)
   ·exact .inr (by simpa using e.1)
  rcases h with rfl | rfl
  ·exact q
  ·exact q
 ·have h:¬k="int":=fun z=>by subst z;exact absurd e Jk
  rw [decide_eq_false h] at q;exact q
def j6:Sp:=fun vs H Q _=>∃c k:Int,vs=[.int c,.int k]/\Builtin.Int.intBits c<=2 ^ 20/\0<=k/\k<=1000/\Q (.int (cc c k)) H
theorem fe{c k:Int}{H:Hp}{Q:VK}{E:XK}:j6 [.int c,.int k] H Q E=(Builtin.Int.intBits c<=2 ^ 20/\0<=k/\k<=1000/\Q (.int (cc c k)) H):=propext ⟨by rintro ⟨_,_,e,q⟩;cases e;exact q,by intro q;exact zE c k rfl q⟩
theorem iO(T:Txt K mg t):FnOk P w K mg base CX0 1 t.f_127 t.e_127 ["_law_cell","_law_k"] j6:=by
 refine T.d_127.F.ok sc_127 ∅ ?_;rintro cdv A outer s H vs Q E hr ⟨c,k,rfl,hb,k0,k1,q⟩;refine ⟨_,
   (XSs.h
   (ae
    (aF (ak pP (yqv 0 vl) (aj lC ac ac) (aB _))
     (af
      (ay (aj aY (aj b6 (aj i9 (yqv 0 vl) (aj lC ac ac)) (aj i7 ac (aj cE ac (aj aY (yqv 1 vl) ac)))) (aj i7 ac ac))))
     aA)
   (ae
    (az (i:=2) sc_127.nd rfl ll (aj aY (aj cE (aj ba (aj ba (aj ba (aj pQ (yqv 0 vl) (yqv 0 vl)) (aj cE ac (yqv 0 vl))) (aj cE ac (yqv 1 vl))) ac) ac) ac))
   (af
    (ay (aj aY (aj ba (aj cE (yqv 2 vl) (yqv 2 vl)) ac) ac)))))),?_⟩
 rw [show start _ [V.int c,V.int k]=[some (.int c),some (.int k),none] from rfl];rwa [];unfold cc at q;have cp:mJ 10 40:=zC Jm Jm Jm
 refine ⟨cp,aS (fun e=>?_) (fun e=>?_)⟩
 ·rw [if_pos e] at q;have m0:0<=k % 60:=cI _ Jm;have m1:k % 60<60:=dw _ Jm;refine zb cp (.inl ⟨Jm,Jm⟩) (zC Jn Jn Jm) (CDivB.pow Jn) (zC Jm Jm Jm) Jm q
 ·rw [if_neg e] at q;have n0:0<=(c * c+3 * c+7919 * k+1) * 48271 % 2147483629:=cI _ Jm;have n1:(c * c+3 * c+7919 * k+1) * 48271 % 2147483629<2147483629:=dw _ Jm;refine zT (qp hb) (.inl ⟨Jm,Jm⟩) (.inl ⟨Jm,Jm⟩) (.inr ⟨Jm,Jm⟩) (.inl ⟨Jn,Jn⟩) q
def j7:Sp:=fun vs H Q _=>∃c:Int,vs=[.int c]/\Builtin.Int.intBits c<=2 ^ 20/\∀p H',Same H H'->H p=none->H' p=some (.lst ((bb c).map V.str))->Q (.ref p) H'
theorem l5{c:Int}{H:Hp}{Q:VK}{E:XK}:j7 [.int c] H Q E=(Builtin.Int.intBits c<=2 ^ 20/\∀p H',Same H H'->H p=none->H' p=some (.lst ((bb c).map V.str))->Q (.ref p) H'):=propext ⟨by rintro ⟨_,e,q⟩;cases e;exact q,by intro q;exact zA c rfl q⟩
theorem ol(T:Txt K mg t):FnOk P w K mg base CX0 2 t.f_128 t.e_128 ["_law_cell"] j7:=by
 have G_127:=@iO P w K mg base t T;refine T.d_128.F.ok sc_128 ∅ ?_;rintro cdv A outer s H vs Q E hr ⟨c,rfl,hb,q⟩;refine ⟨_,
   (XSs.h
   (ae
    (az (i:=1) sc_128.nd rfl ll aq)
   (ae
    (az (i:=2) sc_128.nd rfl ll (ap T.d_127 G_127 hr.m (aa (yqv 0 vl) (aa ac ab)) gl))
   (ae
    (az (i:=3) sc_128.nd rfl ll (aj ba ac (aj aY (yqv 2 vl) ac)))
   (ae
    (az (i:=4) sc_128.nd rfl ll (aj aY (aj b6 (yqv 2 vl) ac) (yqv 3 vl)))
   (ae
    (az (i:=5) sc_128.nd rfl ll (aI ab))
   (ae
    (bZ PassesOwn.never rfl (cQ gl T.z_range (aa ac ab)) (aK (i:=6) sc_128.nd rfl ll)
     (ae
      (az (i:=7) sc_128.nd rfl ll aq)
     (ae
      (bZ PassesOwn.never rfl (cQ gl T.z_range (aa (yqv 3 vl) ab)) (aK (i:=8) sc_128.nd rfl ll)
       (ae
        (az (i:=9) sc_128.nd rfl ll (aj ba (aj ba (aj b6 (yqv 2 vl) ac) (aj cE (yqv 8 vl) (yqv 8 vl))) (aj cE (aN lI gl T.z_int boot_int (aa (cv bf (yqv 8 vl) (yqv 4 vl) (aB _)) ab)) (yqv 6 vl))))
       (af
        (az (i:=7) sc_128.nd rfl ll (aj aM (yqv 7 vl) (am nG (yqv 1 vl) (aj aY (yqv 9 vl) ac)))))))
     (af
      (aL (bv PySem.F.plainAttrs_list PySem.F.slot_list_append PySem.F.type_list_append b4 (yqv 5 vl) (aa (yqv 7 vl) ab)))))))
   (ae
    (aF (ak bf (aj aY (aj b6 (yqv 2 vl) ac) ac) ac (aB _))
     (af
      (az (i:=5) sc_128.nd rfl ll (aI (cm Jp))))
     aA)
   (af
    (ay (yqv 5 vl))))))))))),?_⟩
 rw [show start _ [V.int c]=[some (.int c),none,none,none,none,none,none,none,none,none] from rfl];rwa [fe];refine zH hb Jm Jm ?_;unfold bb at q;have m0:=fB c 3;generalize cc c 3=m at m0 q ⊢;have z0:0<=m % 6:=cI _ Jm;have z1:m % 6<6:=dw _ Jm;have l0:0<=m / 6 % (1+m % 6):=cI _ Jn;refine ⟨CDivB.small Jm Jm,Jn,fun p0 hp0=>⟨Jm,Jm,dg (fun i σ H'=>Same H H'/\H' p0=some (.lst ((nms m i).map V.str))/\∃o6 o7 o8 o9,σ=[some (.int c),some (.str "abcdefghijklmnopqrstuvwxyz"),some (.int m),some (.int (1+m % 6)),some (.int (m / 6 % (1+m % 6))),some (.ref p0),o6,o7,o8,o9])
  (zC (Same.upd hp0) upd_same (zL _ _ _ _ rfl)) ?_ ?_⟩⟩
 ·rintro i σ H' hi ⟨sm,hl,o6,o7,o8,o9,rfl⟩;rwa [];refine ⟨Jn,Jn,dg (fun j σ H2=>H2=H'/\∃o8 o9,σ=[some (.int c),some (.str "abcdefghijklmnopqrstuvwxyz"),some (.int m),some (.int (1+m % 6)),some (.int (m / 6 % (1+m % 6))),some (.ref p0),some (.int i),some (.str (nm m (m / 6 % (1+m % 6)) i j)),o8,o9])
   ⟨rfl,zN _ _ rfl⟩ ?_ ?_⟩
  ·rintro j σ H2 hj ⟨rfl,o8,o9,rfl⟩;rwa [];have hi8:i<8:=hi;have hb1:(if decide ((j:Int)=m / 6 % (1+m % 6))=true then (1:Int) else 0)=0\/(if decide ((j:Int)=m / 6 % (1+m % 6))=true then (1:Int) else 0)=1:=by
    split
    ·exact .inr rfl
    ·exact .inl rfl
   refine zJ (CDivB.small Jm Jm) (.inl ⟨Jn,by omega +splitNatSub⟩) (.inl ⟨Jn,Jn⟩) Jk (zF _ (u5 _) ?_ (zN _ _ rfl));rw [jC];show j+1<=sizeLine;rw [sizeLine_eq];omega
  ·rintro σ H2 ⟨rfl,o8,o9,rfl⟩;rwa [];have hi8:i<8:=hi;refine ⟨.inl ⟨rfl,_,SqL.of hl⟩,zo _ hl ?_ (fun b o e=>?_) ?_ (zL _ _ _ _ rfl)⟩
   ·rw [zq0];unfold nms;rw [zq0,List.length_range,sizeLine_eq];omega
   ·rw [aC (aw e hp0)];exact sm b o e
   ·rw [upd_same,nV,zq6];rfl
 ·rintro σ H' ⟨sm,hl,o6,o7,o8,o9,rfl⟩;rwa [];refine ⟨CDivB.small Jm Jm,aS (fun e=>?_) (fun e=>?_)⟩
  ·rw [if_pos e] at q;intro p hp;exact q p _ (sm.trans (Same.upd hp)) (sm.free hp) upd_same
  ·rw [if_neg e] at q;exact q p0 H' sm hp0 hl
def jr(K:W.Frag)(m:Int)(w:Int)(a:Addr)(H:Hp)(Q:VK):Prop:=∃(ns:List Str),SqL K H a (ns.map V.str)/\0<=w/\w<=8/\Q (hC m ns w) H
def fJ(K:W.Frag):Sp:=fun vs H Q _=>∃(m:Int)(w:Int)(a:Addr),vs=[.int m,.ref a,.int w]/\jr K m w a H Q
theorem jF(T:Txt K mg t):FnOk P w K mg base CX0 1 t.f_129 t.e_129 ["_law_mixed_here","_law_names_here","_law_width"] (fJ K):=by
 refine T.d_129.F.ok vp ∅ ?_;rintro cdv A outer s H vs Q E hr ⟨m,w,a,rfl,ns,hS,w0,w8,q⟩;refine ⟨_,
   (XSs.h
   (ae
    (aF (aZ (bU (ak c8 (aj aY (yqv 0 vl) ac) ac (aB _)) (bL (ak c8 (av au gl T.z_len PySem.boot_len (aa (yqv 1 vl) ab)) ac (aB _)))))
     (af
      (ay (am aD (yqv 1 vl) (aj aY (aj b6 (yqv 0 vl) ac) (av au gl T.z_len PySem.boot_len (aa (yqv 1 vl) ab))))))
     aA)
   (af
    (ay (aj aY (aj b6 (yqv 0 vl) ac) (aj i7 ac (yqv 2 vl))))))),?_⟩
 rw [show start _ [V.int m,V.ref a,V.int w]=[some (.int m),some (.ref a),some (.int w)] from rfl];rwa [];unfold hC at q;have np:(0:Int)<1 * 2 ^ w.toNat:=by rw [ri];exact Int.pow_pos Jm
 refine aS (fun e=>?_) (fun e=>?_)
 ·refine zA _ (.inl hS) (aS (fun e2=>?_) (fun e2=>?_))
  ·rw [zq0] at e2;have hn:¬ns=[]:=fun z=>by rw [z] at e2;simp at e2
   rw [if_pos ⟨e,hn⟩] at q;refine ⟨CDivB.small Jm Jm,zF _ (.inl hS) ?_ (zB _ _ hS ?_ q)⟩
   ·rw [zq0];exact e2
   ·rw [zq0];exact hG hn
  ·rw [zq0] at e2;have hn:ns=[]:=zq81.mp Jn;rw [if_neg (fun z=>z.2 hn)] at q;exact zH (CDivB.small Jm Jm) (zC Jn Jn Jm) np q
 ·rw [if_neg (fun z=>e z.1)] at q;exact zH (CDivB.small Jm Jm) (zC Jn Jn Jm) np q
theorem mm{m w:Int}{a:Addr}{H:Hp}{Q:VK}{E:XK}:fJ K [.int m,.ref a,.int w] H Q E=∃ns,SqL K H a (ns.map V.str)/\0<=w/\w<=8/\Q (hC m ns w) H:=propext ⟨by rintro ⟨_,_,_,e,q⟩;cases e;exact q,fun q=>zI _ _ _ rfl q⟩
def qc(K:W.Frag)(m:Int)(w:Int)(a:Addr)(H:Hp)(Q:VK):Prop:=∃(ns:List Str),SqL K H a (ns.map V.str)/\0<=w/\w<=8/\∀p H',Same H H'->H p=none->H' p=some (.tup (iz m ns w))->Q (.ref p) H'
def lf(K:W.Frag):Sp:=fun vs H Q _=>∃(m:Int)(w:Int)(a:Addr),vs=[.int m,.ref a,.int w]/\qc K m w a H Q
theorem qu(T:Txt K mg t):FnOk P w K mg base CX0 2 t.f_130 t.e_130 ["_law_mixed_here","_law_names_here","_law_width"] (lf K):=by
 have G_129:=@jF P w K mg base t T;refine T.d_130.F.ok sc_130 ∅ ?_;rintro cdv A outer s H vs Q E hr ⟨m,w,a,rfl,ns,hS,w0,w8,q⟩;refine ⟨_,
   (XSs.h
   (ae
    (az (i:=3) sc_130.nd rfl ll (ap T.d_129 G_129 hr.m (aa (aj b6 (yqv 0 vl) ac) (aa (yqv 1 vl) (aa (yqv 2 vl) ab))) gl))
   (ae
    (aF (aZ (bw (ak bf (aj aY (yqv 0 vl) ac) ac (aB _)) (bA (ak bf (av au gl T.z_len PySem.boot_len (aa (yqv 1 vl) ab)) ac (aB _)))))
     (af
      (ay (aX (aa aq (aa (yqv 3 vl) ab)))))
     aA)
   (ae
    (az (i:=4) sc_130.nd rfl ll (am aD (yqv 1 vl) (aj aY (aj b6 (yqv 0 vl) ac) (av au gl T.z_len PySem.boot_len (aa (yqv 1 vl) ab)))))
   (ae
    (aF (ak bf (aj aY (yqv 0 vl) ac) ac (aB _))
     (af
      (ay (aX (aa aq (aa (yqv 4 vl) (aa (yqv 3 vl) ab))))))
     aA)
   (ae
    (az (i:=5) sc_130.nd rfl ll (am aD (aI (cm Jp)) (aj i9 (aj aY (yqv 0 vl) ac) ac)))
   (af
    (ay (aX (aa (yqv 5 vl) (aa (yqv 4 vl) (aa (yqv 3 vl) (aa (ap T.d_129 G_129 hr.m (aa (aj b6 (yqv 0 vl) ac) (aa (yqv 1 vl) (aa (yqv 2 vl) ab))) gl) ab))))))))))))),?_⟩
 rw [show start _ [V.int m,V.ref a,V.int w]=[some (.int m),some (.ref a),some (.int w),none,none,none] from rfl];rwa [mm];unfold iz at q;have n0:0<=m % 9:=cI _ Jm;have n1:m % 9<9:=dw _ Jm;have cd:∀z,0<z->z<1073741824->CDivB m z:=fun z h1 h2=>CDivB.small h1 h2;refine ⟨cd _ Jm Jm,zG ns hS w0 w8 (aS (fun e=>?_) (fun e=>?_))⟩
 ·rw [if_pos (.inl e)] at q;intro p hp;exact q p _ (Same.upd hp) hp upd_same
 ·refine zA _ (.inl hS) (aS (fun e2=>?_) (fun e2=>?_))
  ·rw [zq0] at e2;rw [if_pos (.inr (zq81.mp Jn))] at q;intro p hp;exact q p _ (Same.upd hp) hp upd_same
  ·rw [zq0] at e2;have hn:¬ns=[]:=fun z=>e2 (by rw [z];rfl);rw [if_neg (fun z=>z.elim e hn)] at q;refine ⟨cd _ Jm Jm,zF _ (.inl hS) ?_ (zB _ _ hS (by rw [zq0];exact hG hn) (aS (fun e3=>?_) (fun e3=>?_)))⟩
   ·rw [zq0];have:=zq57.mpr hn;omega
   ·rw [if_pos e3] at q;intro p hp;exact q p _ (Same.upd hp) hp upd_same
   ·rw [if_neg e3] at q;intro p hp;refine zD _ _ (SqL.of upd_same) (uj Jn Jn) (cd _ Jm Jm) (zG ns ((Same.upd hp).seq hS) w0 w8 fun p2 hp2=>?_);exact q p2 _ ((Same.upd hp).trans (Same.upd hp2)) ((Same.upd hp).free hp2) upd_same
theorem jO{m w:Int}{a:Addr}{H:Hp}{Q:VK}{E:XK}:lf K [.int m,.ref a,.int w] H Q E=∃ns,SqL K H a (ns.map V.str)/\0<=w/\w<=8/\∀p H',Same H H'->H p=none->H' p=some (.tup (iz m ns w))->Q (.ref p) H':=propext ⟨by rintro ⟨_,_,_,e,q⟩;cases e;exact q,fun q=>zI _ _ _ rfl q⟩
def qd(K:W.Frag)(S:Addr)(y:V)(H:Hp)(Q:VK):Prop:=∃(H0:Hp)(xs:List V)(e:Ent)(es:List Ent)(f:List Addr)(g:List Addr)(r:Stm)(B:Nat),Same H0 H/\H S=some (.lst xs)/\StkV K H xs (e::es) f/\StmV K H y r g/\(S::(f++g)).Nodup/\(∀a∈S::(f++g),H0 a=none)/\
 (∀e'∈e::es,e'.rows.length<=B)/\B<=10000/\∀H',c9 K H0 H' S (e.add r::es) (B+1)->Q .non H'
def lj(K:W.Frag):Sp:=fun vs H Q _=>∃(S:Addr)(y:V),vs=[.ref S,y]/\qd K S y H Q
theorem kM(T:Txt K mg t):FnOk P w K mg base CX0 1 t.f_131 t.e_131 ["_law_stack","_law_row"] (lj K):=by
 refine T.d_131.F.ok vq ∅ ?_;rintro cdv A outer s H vs Q E hr ⟨S,y,rfl,H0,xs,e,es,f,g,r,B,sm,hS,hK,hy,nd,fr0,few,hB,q⟩;refine ⟨_,
   (XSs.h
   (af
    (aL (bv PySem.F.plainAttrs_list PySem.F.slot_list_append PySem.F.type_list_append b4 (am aJ (am aD (yqv 0 vl) (pN lE ac)) ac) (aa (yqv 1 vl) ab))))),?_⟩
 rw [show start _ [V.ref S,y]=[some (.ref S),some y] from rfl];obtain ⟨xs',x,f',g',rfl,rfl,h1,h2⟩:=hK.inv;obtain ⟨qq,a,o,ys,zs,fa,fo,rfl,hq,ha,hr1,ho,hr2,rfl⟩:=h2;rwa [];refine zB _ _ (SqL.of hS) ie ?_;rwa [];refine zD _ _ hq rfl (.inl ⟨rfl,_,SqL.of ha⟩) ?_;rwa [];have ly:=hr1.length;have lB:=few e Jo;have nd':(S::((a::o::((fa++g)++fo))++f')).Nodup:=by
  refine (List.Perm.nodup_iff ?_).mp nd;refine .cons _ (.cons _ (.cons _ ?_));show ((fa++fo)++f'++g).Perm ((fa++g++fo)++f');have e1:(fa++fo)++f'++g=fa++((fo++f')++g):=by simp only [List.append_assoc]
  have e2:(fa++g++fo)++f'=fa++(g++(fo++f')):=by simp only [List.append_assoc]
  rw [e1,e2];exact List.Perm.append_left fa vT
 have mem':∀b,b∈S::((a::o::((fa++g)++fo))++f')->b∈S::((a::o::(fa++fo))++f'++g):=fun b hb=>by simp only [List.mem_cons,List.mem_append] at hb ⊢;rcases hb with z | (z | z | (z | z) | z) | z<;>simp [z]
 have nS:¬S=a:=fun z=>by subst z;simp at nd
 have na:a∉(o::((fa++g)++fo))++f':=(zq16.mp (zq16.mp nd').2).1;have naf:a∉f':=fun z=>na (cx _ z);have nao:¬o=a:=fun z=>na (by rw [<- z];simp);have nafa:a∉fa:=fun z=>na (by simp [z]);have nag:a∉g:=fun z=>na (by simp [z]);have nafo:a∉fo:=fun z=>na (by simp [z]);have tt:TSame H (upd H a (.lst (ys++[y]))):=TSame.updL ha;refine zF ys ha (by rw [sizeLine_eq];omega) (q _ ⟨sm.updM (fr0 a Jo),zD (xs'++[.ref qq]) _ (by rw [aC nS];exact hS) (.snoc (h1.keep tt (Kept.upd naf)) (zf qq a o (ys++[y]) zs (fa++g) fo rfl (tt.seqT hq) upd_same ((hr1.keep tt (Kept.upd nafa)).snoc (hy.keep tt (Kept.upd nag))) (by rw [aC nao];exact ho) (hr2.keep tt (Kept.upd nafo)) rfl)) nd' fun b hb=>fr0 b (mem' b hb),fun e' he'=>?_⟩);rcases zq1.mp he' with z | z
 ·subst z;show (e.rows++[r]).length<=B+1;simp;omega
 ·have:=few e' (zq2 _ z);omega
def lG(K:W.Frag)(S:Addr)(H:Hp)(Q:VK):Prop:=∃(H0:Hp)(e:Ent)(e2:Ent)(es:List Ent)(B:Nat),c9 K H0 H S (e::e2::es) B/\B<=10000/\∀H',c9 K H0 H' S (cN (e::e2::es)) (B+1)->Q .non H'
def gz(K:W.Frag):Sp:=fun vs H Q _=>∃(S:Addr),vs=[.ref S]/\lG K S H Q
theorem eI{S:Addr}{y:V}{H:Hp}{Q:VK}{E:XK}:lj K [.ref S,y] H Q E=∃(H0:Hp)(xs:List V)(e:Ent)(es:List Ent)(f g:List Addr)(r:Stm)(B:Nat),Same H0 H/\H S=some (.lst xs)/\StkV K H xs (e::es) f/\StmV K H y r g/\(S::(f++g)).Nodup/\(∀a∈S::(f++g),H0 a=none)/\
 (∀e'∈e::es,e'.rows.length<=B)/\B<=10000/\∀H',c9 K H0 H' S (e.add r::es) (B+1)->Q .non H':=propext ⟨by rintro ⟨_,_,e,q⟩;cases e;exact q,fun q=>zE _ _ rfl q⟩
theorem md(T:Txt K mg t):FnOk P w K mg base CX0 2 t.f_132 t.e_132 ["_law_stack"] (gz K):=by
 have G_131:=@kM P w K mg base t T;refine T.d_132.F.ok sc_132 ∅ (fun cdv A outer s H vs Q E hr h=>?_);obtain ⟨S,rfl,H0,e,e2,es,B,⟨sm,⟨xs,f,hS,hK,nd,fr0⟩,few⟩,hB,q⟩:=h;refine ⟨_,
   (XSs.h
   (ae
    (lz (fk PySem.F.plainAttrs_list PySem.F.slot_list_pop PySem.F.type_list_pop nN (yqv 0 vl)) (i5 rfl (bz (aK (i:=1) sc_132.nd rfl ll) (bz (aK (i:=2) sc_132.nd rfl ll) (bz (aK (i:=3) sc_132.nd rfl ll) (bz (aK (i:=4) sc_132.nd rfl ll) fN))))))
   (af
    (aF (ak bf (yqv 1 vl) aq (aB _))
     (af
      (aL (ap T.d_131 G_131 hr.m (aa (yqv 0 vl) (aa (aX (aa aq (aa (yqv 3 vl) (aa (yqv 2 vl) ab)))) ab)) gl)))
     (af
      (aF (ak bf (yqv 1 vl) aq (aB _))
       (af
        (aL (ap T.d_131 G_131 hr.m (aa (yqv 0 vl) (aa (aX (aa aq (aa (yqv 3 vl) (aa (yqv 2 vl) (aa (aI ab) ab))))) ab)) gl)))
       (af
        (aL (ap T.d_131 G_131 hr.m (aa (yqv 0 vl) (aa (aX (aa aq (aa (yqv 3 vl) (aa (yqv 4 vl) (aa (yqv 2 vl) ab))))) ab)) gl))))))))),?_⟩
 rw [show start _ [V.ref S]=[some (.ref S),none,none,none,none] from rfl];obtain ⟨xs',x,f',g',rfl,rfl,h1,h2⟩:=hK.inv;obtain ⟨qq,a,o,ys,zs,fa,fo,rfl,hq,ha,hr1,ho,hr2,rfl⟩:=h2;rwa [eI];refine ⟨.inl ⟨rfl,_,SqL.of hS⟩,zB _ (.ref qq) hS Jo ?_⟩;rwa [eI];have tS:∀o',TSame H (upd H S o'):=fun o'=>TSame.updL hS;have nS:S∉(a::o::(fa++fo))++f':=(zq16.mp nd).1;have ndf:=(zq16.mp nd).2;have nSf:S∉f':=fun z=>nS (cx _ z);have nSa:¬a=S:=fun z=>nS (by rw [z];simp);have nSo:¬o=S:=fun z=>nS (by rw [z];simp);have nSfa:S∉fa:=fun z=>nS (by simp [z]);have nSfo:S∉fo:=fun z=>nS (by simp [z]);have edl:(xs'++[V.ref qq]).dropLast=xs':=by simp
 rw [edl];have tt:=tS (.lst xs');have s1:Same H0 (upd H S (.lst xs')):=sm.updM (fr0 S Jo);have k1:=h1.keep tt (Kept.upd nSf);have r1:=hr1.keep tt (Kept.upd nSfa);have r2:=hr2.keep tt (Kept.upd nSfo);have ha1:upd H S (.lst xs') a=some (.lst ys):=by rw [aC nSa];exact ha
 have ho1:upd H S (.lst xs') o=some (.lst zs):=by rw [aC nSo];exact ho
 have few':∀e'∈e2::es,e'.rows.length<=B:=fun e' he=>few e' (zq2 _ he);have q':∀H',c9 K H0 H' S (e2.add (bB e)::es) (B+1)->Q .non H':=q;have sub:∀(g:List Addr),(∀b∈g,b∈a::o::(fa++fo))->∀b∈S::(f'++g),b∈S::((a::o::(fa++fo))++f'):=fun g hg b hb=>by
  rcases zq1.mp hb with z | z
  ·rw [z];simp
  ·rcases zq10.mp z with z | z
   ·exact zq2 _ (cx _ z)
   ·exact zq2 _ (d9 _ (hg b z))
 have nds:∀(g:List Addr),g.Sublist (a::o::(fa++fo))->(S::(f'++g)).Nodup:=fun g hg=>by
  have h3:(g++f').Nodup:=ndf.sublist (List.Sublist.append hg (List.Sublist.refl _));have h4:(f'++g).Nodup:=(List.Perm.nodup_iff vT).mp h3;refine zq16.mpr ⟨fun z=>?_,h4⟩;rcases zq10.mp z with z | z
  ·exact nSf z
  ·exact nS (d9 _ (hg.subset z))
 refine zF _ (tt.seqT hq) rfl ?_;rwa [eI];have rest:bB e=.ifs e.name e.ones e.rows->∀p,upd H S (.lst xs') p=none->∃(H0_1:Hp)(xs:List V)(e_1:Ent)(es_1:List Ent)(f g:List Addr)(r:Stm)(B_1:Nat),Same H0_1 (upd (upd H S (.lst xs')) p (.tup [V.str "if",V.str e.name,V.ref o,V.ref a]))/\upd (upd H S (.lst xs')) p (.tup [V.str "if",V.str e.name,V.ref o,V.ref a]) S=some (.lst xs)/\
   StkV K (upd (upd H S (.lst xs')) p (.tup [V.str "if",V.str e.name,V.ref o,V.ref a])) xs (e_1::es_1) f/\StmV K (upd (upd H S (.lst xs')) p (.tup [V.str "if",V.str e.name,V.ref o,V.ref a])) (.ref p) r g/\(S::(f++g)).Nodup/\(∀b∈S::(f++g),H0_1 b=none)/\(∀e'∈e_1::es_1,e'.rows.length<=B_1)/\B_1<=10000/\
   ∀H',c9 K H0_1 H' S (e_1.add r::es_1) (B_1+1)->Q .non H':=by
  intro hcl p hp;have s2:=Same.upd (o:=.tup [V.str "if",V.str e.name,V.ref o,V.ref a]) hp;rw [hcl] at q';have pm:(o::a::(fo++fa)).Perm (a::o::(fa++fo)):=(List.Perm.swap a o _).trans (.cons _ (.cons _ vT));refine zR H0 xs' e2 es f' (o::a::(fo++fa)) (.ifs e.name e.ones e.rows) B (zc (s1.trans s2) (s2 _ _ upd_same) (k1.keep s2.ts (Kept.of s2)) (.ifs (SqT.of upd_same) (s2 _ _ ho1) (s2 _ _ ha1) (r2.same s2) (r1.same s2)) ?_ (fun b hb=>fr0 b (sub _ (fun b hb=>pm.mem_iff.mp hb) b hb)) few' hB q');refine (List.Perm.nodup_iff (.cons _ ?_)).mp (nds _ (List.Sublist.refl _));exact List.Perm.append_left _ pm.symm
 cases hkd:e.kind with
 |whl=>
  refine aS (fun _=>fun p hp=>?_) (fun z=>absurd rfl z);have s2:=Same.upd (o:=.tup [V.str "while",V.str e.name,V.ref a]) hp;have hcl:bB e=.whl e.name e.rows:=by unfold bB;rw [hkd]
  rw [hcl] at q';refine zR H0 xs' e2 es f' (a::fa) (.whl e.name e.rows) B (zc (s1.trans s2) (s2 _ _ upd_same) (k1.keep s2.ts (Kept.of s2)) (.whl (SqT.of upd_same) (s2 _ _ ha1) (r1.same s2)) (nds _ ?_) (fun b hb=>fr0 b (sub _ ?_ b hb)) few' hB q')
  ·exact .cons_cons _ (.cons _ (mI _ _))
  ·intro b hb;simp at hb ⊢;rcases hb with z | z<;>simp [z]
 |iff=>
  refine aS (fun z=>absurd z Jk) (fun _=>aS (fun _=>fun p hp p2 hp2=>?_) (fun z=>absurd rfl z));have s2:=Same.upd (o:=.lst []) hp;have s3:=Same.upd (o:=.tup [V.str "if",V.str e.name,V.ref a,V.ref p]) hp2;have s23:=s2.trans s3;have hcl:bB e=.ifs e.name e.rows []:=by unfold bB;rw [hkd]
  rw [hcl] at q';have np:∀b,b∈S::((a::o::(fa++fo))++f')->¬p=b:=fun b hb z=>by
   have ex:∃u,upd H S (.lst xs') b=some u:=by
    rcases zq1.mp hb with y | y
    ·exact ⟨_,by rw [y];exact upd_same⟩
    rcases zq10.mp y with y | y
    ·rcases zq1.mp y with y | y
     ·exact ⟨_,by rw [y];exact ha1⟩
     rcases zq1.mp y with y | y
     ·exact ⟨_,by rw [y];exact ho1⟩
     rcases zq10.mp y with y | y
     ·obtain ⟨_,h⟩:=r1.tracked b y;exact ⟨_,h⟩
     ·obtain ⟨_,h⟩:=r2.tracked b y;exact ⟨_,h⟩
    ·obtain ⟨_,h⟩:=k1.tracked b y;exact ⟨_,h⟩
   obtain ⟨u,hu⟩:=ex;exact aw hu hp z.symm
  have sa:∀b∈S::(f'++(a::fa)),b∈S::((a::o::(fa++fo))++f'):=sub _ (fun b hb=>by simp at hb ⊢;rcases hb with z | z<;>simp [z]);refine ⟨H0,xs',e2,es,f',a::p::(fa++[]),.ifs e.name e.rows [],B,s1.trans s23,s23 _ _ upd_same,k1.keep s23.ts (Kept.of s23),.ifs (SqT.of upd_same) (s23 _ _ ha1) (s3 _ _ upd_same) (r1.same s23) .nil,?_,fun b hb=>?_,few',hB,q'⟩
  ·have h5:(p::(S::(f'++(a::fa)))).Nodup:=zq16.mpr ⟨fun z=>np p (sa p z) rfl,nds _ (.cons_cons _ (.cons _ (mI _ _)))⟩;refine (List.Perm.nodup_iff ?_).mp h5;rw [fU];refine (List.Perm.swap S p _).trans (.cons _ ?_);have e1:f'++a::p::fa=(f'++[a])++p::fa:=by simp
   have e2:f'++a::fa=(f'++[a])++fa:=by simp
   rw [e1,e2];exact List.perm_middle.symm
  ·by_cases hbp:b=p
   ·rw [hbp];exact s1.free hp
   ·refine fr0 b (sa b ?_);simp at hb ⊢;rcases hb with z | z | z | z | z
    ·exact .inl z
    ·exact .inr (.inl z)
    ·exact .inr (.inr (.inl z))
    ·exact absurd z hbp
    ·exact .inr (.inr (.inr z))
 |all=>
  refine aS (fun z=>absurd z Jk) (fun _=>aS (fun z=>absurd z Jk) (fun _=>fun p hp=>?_));exact rest (by unfold bB;rw [hkd]) p hp
 |els=>refine aS (fun z=>absurd z Jk) (fun _=>aS (fun z=>absurd z Jk) (fun _=>fun p hp=>?_));exact rest (by unfold bB;rw [hkd]) p hp
def js(K:W.Frag)(a:Addr)(b:Addr)(w:Int)(most:Int)(H:Hp)(Q:VK):Prop:=∃(cs:List Int)(ns:List Str),SqL K H a (cs.map V.int)/\cs.length<=63/\(∀z∈cs,Builtin.Int.intBits z<=2 ^ 20)/\SqL K H b (ns.map V.str)/\0<=w/\w<=8/\
 ∀p xs f H',Same H H'->H' p=some (.lst xs)->StmsV K H' xs (dC cs ns w most) f->(p::f).Nodup->(∀c∈p::f,H c=none)->Q (.ref p) H'
def fK(K:W.Frag):Sp:=fun vs H Q _=>∃(a:Addr)(b:Addr)(w:Int)(most:Int),vs=[.ref a,.ref b,.int w,.int most]/\js K a b w most H Q
theorem ee{S:Addr}{H:Hp}{Q:VK}{E:XK}:gz K [.ref S] H Q E=∃(H0:Hp)(e e2:Ent)(es:List Ent)(B:Nat),c9 K H0 H S (e::e2::es) B/\B<=10000/\∀H',c9 K H0 H' S (cN (e::e2::es)) (B+1)->Q .non H':=propext ⟨by rintro ⟨_,e,q⟩;cases e;exact q,fun q=>zA _ rfl q⟩
theorem jG(T:Txt K mg t):FnOk P w K mg base CX0 4 t.f_133 t.e_133 ["_law_cells","_law_names_here","_law_width","_law_most"] (fK K):=by
 have G_127:=@iO P w K mg base t T;have G_130:=@qu P w K mg base t T;have G_131:=@kM P w K mg base t T;have G_132:=@md P w K mg base t T;refine T.d_133.F.ok sc_133 ∅ ?_;rintro cdv A outer s H vs Q E hr ⟨a,b,w,most,rfl,cs,ns,hA,lcs,bcs,hB,w0,w8,q⟩;refine ⟨_,
   (XSs.h
   (ae
    (az (i:=4) sc_133.nd rfl ll (aI (aa (aX (aa aq (aa (aI ab) (aa aq (aa (aI ab) ab))))) ab)))
   (ae
    (az (i:=5) sc_133.nd rfl ll ac)
   (b9
    (bZ PassesOwn.never rfl (pO T.z_enumerate (aa (yqv 0 vl) ab) gl) (i5 rfl (bz (aK (i:=6) sc_133.nd rfl ll) (bz (aK (i:=7) sc_133.nd rfl ll) fN)))
     (ae
      (az (i:=8) sc_133.nd rfl ll (ap T.d_127 G_127 hr.m (aa (yqv 7 vl) (aa (yqv 6 vl) ab)) gl))
     (ae
      (az (i:=9) sc_133.nd rfl ll (aj aY (yqv 8 vl) ac))
     (af
      (aF (aZ (bU (ak fO (yqv 9 vl) ac (aB _)) (bL (ak c8 (av au gl T.z_len PySem.boot_len (aa (yqv 4 vl) ab)) ac (aB _)))))
       (af
        (aF (aZ (bU (ak bf (yqv 9 vl) ac (aB _)) (bL (ak bf (am aJ (am aD (yqv 4 vl) (pN lE ac)) ac) aq (aB _)))))
         (ae
          (lz (fk PySem.F.plainAttrs_list PySem.F.slot_list_pop PySem.F.type_list_pop nN (yqv 4 vl)) (i5 rfl (bz (aK (i:=10) sc_133.nd rfl ll) (bz (aK (i:=11) sc_133.nd rfl ll) (bz (aK (i:=12) sc_133.nd rfl ll) (bz (aK (i:=13) sc_133.nd rfl ll) fN))))))
         (af
          (aL (bv PySem.F.plainAttrs_list PySem.F.slot_list_append PySem.F.type_list_append b4 (yqv 4 vl) (aa (aX (aa aq (aa (aI ab) (aa (yqv 12 vl) (aa (yqv 11 vl) ab))))) ab)))))
         (af
          (aL (ap T.d_132 G_132 hr.m (aa (yqv 4 vl) ab) gl)))))
       (af
        (aF (ak fO (yqv 5 vl) (yqv 3 vl) (aB _))
         (ae
          (az (i:=5) sc_133.nd rfl ll (aj ba (yqv 5 vl) ac))
         (af
          (aF (aZ (bU (ak fO (yqv 9 vl) ac (aB _)) (bU (ak fO (av au gl T.z_len PySem.boot_len (aa (yqv 4 vl) ab)) ac (aB _)) (bL (ak c8 (av au gl T.z_len PySem.boot_len (aa (yqv 1 vl) ab)) ac (aB _))))))
           (af
            (aL (bv PySem.F.plainAttrs_list PySem.F.slot_list_append PySem.F.type_list_append b4 (yqv 4 vl) (aa (aX (aa (am aD (aI (cm Jp)) (aj i9 (yqv 9 vl) ac)) (aa (aI ab) (aa (am aD (yqv 1 vl) (aj aY (aj b6 (yqv 8 vl) ac) (av au gl T.z_len PySem.boot_len (aa (yqv 1 vl) ab)))) (aa (aI ab) ab))))) ab))))
           (af
            (aL (ap T.d_131 G_131 hr.m (aa (yqv 4 vl) (aa (ap T.d_130 G_130 hr.m (aa (aj b6 (yqv 8 vl) ac) (aa (yqv 1 vl) (aa (yqv 2 vl) ab))) gl) ab)) gl))))))
         aA)))))))
   (ae
    (gG PassesOwn.never (ak c8 (av au gl T.z_len PySem.boot_len (aa (yqv 4 vl) ab)) ac (aB _))
     (af
      (aL (ap T.d_132 G_132 hr.m (aa (yqv 4 vl) ab) gl))))
   (af
    (ay (am aJ (am aD (yqv 4 vl) ac) ac)))))))),?_⟩
 rw [show start _ [V.ref a,V.ref b,V.int w,V.int most]=[some (.ref a),some (.ref b),some (.int w),some (.int most),none,none,none,none,none,none,none,none,none,none] from rfl];rwa [fe,jO,eI,ee];intro p1 hp1 p2 hp2 p3 hp3 S hS;have s1:Same H (upd H p1 (.lst [])):=Same.upd hp1;have s2:=s1.updN (o:=.lst []) hp2;have s3:=s2.updN (o:=.tup [V.str "all",V.ref p1,V.str "",V.ref p2]) hp3;have s4:=s3.updN (o:=.lst [V.ref p3]) hS;refine ⟨fun σ H'=>(∃B,B<=63/\c9 K H H' S (bF ns w most cs 0 start0).1 B/\1<=(bF ns w most cs 0 start0).1.length/\(bF ns w most cs 0 start0).1.length<=9)/\∃o5 o6 o7 o8 o9 o10 o11 o12 o13,σ=[some (.ref a),some (.ref b),some (.int w),some (.int most),some (.ref S),o5,o6,o7,o8,o9,o10,o11,o12,o13],⟨⟨_,s4.seq hA⟩,?_⟩,?_⟩
 ·obtain ⟨Pv,hPv⟩:∃Pv:Nat->L2.St->Hp->Prop,Pv=fun i σ H'=>(c9 K H H' S (bF ns w most (cs.take i) 0 start0).1 i/\1<=(bF ns w most (cs.take i) 0 start0).1.length/\(bF ns w most (cs.take i) 0 start0).1.length<=9)/\∃o6 o7 o8 o9 o10 o11 o12 o13,σ=[some (.ref a),some (.ref b),some (.int w),some (.int most),some (.ref S),some (.int (bF ns w most (cs.take i) 0 start0).2),o6,o7,o8,o9,o10,o11,o12,o13]:=⟨_,rfl⟩
  have hI:∀i σ H',((c9 K H H' S (bF ns w most (cs.take i) 0 start0).1 i/\1<=(bF ns w most (cs.take i) 0 start0).1.length/\(bF ns w most (cs.take i) 0 start0).1.length<=9)/\∃o6 o7 o8 o9 o10 o11 o12 o13,σ=[some (.ref a),some (.ref b),some (.int w),some (.int most),some (.ref S),some (.int (bF ns w most (cs.take i) 0 start0).2),o6,o7,o8,o9,o10,o11,o12,o13])->Pv i σ H':=by rw [hPv];exact fun _ _ _ h=>h
  have hE:∀i σ H',Pv i σ H'->(c9 K H H' S (bF ns w most (cs.take i) 0 start0).1 i/\1<=(bF ns w most (cs.take i) 0 start0).1.length/\(bF ns w most (cs.take i) 0 start0).1.length<=9)/\∃o6 o7 o8 o9 o10 o11 o12 o13,σ=[some (.ref a),some (.ref b),some (.int w),some (.int most),some (.ref S),some (.int (bF ns w most (cs.take i) 0 start0).2),o6,o7,o8,o9,o10,o11,o12,o13]:=by rw [hPv];exact fun _ _ _ h=>h
  clear hPv;refine qf (xs:=cs.map V.int) Pv (hI _ _ _ ?_) (fun i σ H' _ h=>(hE _ _ _ h).1.1.same.seq hA) ?_ ?_
  ·have hp1':upd (upd (upd (upd H p1 (.lst [])) p2 (.lst [])) p3 (.tup [V.str "all",V.ref p1,V.str "",V.ref p2])) S (.lst [V.ref p3]) p1=some (.lst []):=Same.upd hS _ _ (Same.upd hp3 _ _ (Same.upd hp2 _ _ upd_same));have hp2':upd (upd (upd (upd H p1 (.lst [])) p2 (.lst [])) p3 (.tup [V.str "all",V.ref p1,V.str "",V.ref p2])) S (.lst [V.ref p3]) p2=some (.lst []):=Same.upd hS _ _ (Same.upd hp3 _ _ upd_same);have hp3':upd (upd (upd (upd H p1 (.lst [])) p2 (.lst [])) p3 (.tup [V.str "all",V.ref p1,V.str "",V.ref p2])) S (.lst [V.ref p3]) p3=some (.tup [V.str "all",V.ref p1,V.str "",V.ref p2]):=Same.upd hS _ _ upd_same;have n1:¬p1=p2:=fun z=>by rw [z] at hp2;exact absurd hp2 (by rw [upd_same];exact fun z=>nomatch z)
   have n2:¬p1=S:=fun z=>by rw [<- z] at hS;rw [Same.upd hp3 _ _ (Same.upd hp2 _ _ upd_same)] at hS;cases hS
   have n3:¬p2=S:=fun z=>by rw [<- z] at hS;rw [Same.upd hp3 _ _ upd_same] at hS;cases hS
   refine ⟨zC ⟨s4,zD ([.ref p3]) ((p1::p2::([]++[]))++[]) upd_same (StkV.snoc (xs:=[]) .nil (zf p3 p1 p2 ([]) ([]) ([]) ([]) rfl (SqT.of hp3') hp1' .nil hp2' .nil rfl)) ?_ fun c hc=>?_,fun e he=>?_⟩ (by simp [bF,start0]) (by simp [bF,start0]),zR _ _ _ _ _ _ _ _ rfl⟩
   ·simp only [List.nodup_cons,List.append_nil,List.cons_append,List.nil_append,List.mem_cons,List.not_mem_nil,or_false,not_or];exact zC ⟨fun z=>n2 z.symm,fun z=>n3 z.symm⟩ n1 Jo
   ·simp at hc;rcases hc with z | z | z
    ·rw [z];exact s3.free hS
    ·rw [z];exact hp1
    ·rw [z];exact s1.free hp2
   ·have:e=⟨.all,[],"",[]⟩:=by simpa [bF,start0] using he
    rw [this];exact ek _
  ·intro i x σ H' pp hx hpp hv;obtain ⟨⟨⟨sm,⟨xs,f,hSx,hK,nd,fr⟩,few⟩,l1,l9⟩,o6,o7,o8,o9,o10,o11,o12,o13,rfl⟩:=hE _ _ _ hv;clear hv;rw [da] at hx;obtain ⟨c,hc,rfl⟩:=zq42.mp hx;obtain ⟨hi,hce⟩:=zq19.mp hc;have enx:bF ns w most (cs.take (i+1)) 0 start0=c6 ns w most i c (bF ns w most (cs.take i) 0 start0):=by rw [fW hi,hce,gx,eP,Nat.zero_add,mG Jn]
   have hN:∀σ H',((c9 K H H' S (c6 ns w most i c (bF ns w most (cs.take i) 0 start0)).1 (i+1)/\1<=(c6 ns w most i c (bF ns w most (cs.take i) 0 start0)).1.length/\(c6 ns w most i c (bF ns w most (cs.take i) 0 start0)).1.length<=9)/\∃o6 o7 o8 o9 o10 o11 o12 o13,σ=[some (.ref a),some (.ref b),some (.int w),some (.int most),some (.ref S),some (.int (c6 ns w most i c (bF ns w most (cs.take i) 0 start0)).2),o6,o7,o8,o9,o10,o11,o12,o13])->Pv (i+1) σ H':=fun σ H' h=>hI _ _ _ (by rw [enx];exact h);clear hI hE enx;generalize bF ns w most (cs.take i) 0 start0=st at hK few l1 l9 hN ⊢;obtain ⟨es,many⟩:=st;rwa [fe,jO,eI,ee];refine zF _ (SqT.of upd_same) rfl ?_;rwa [fe,jO,eI,ee];refine zH (bcs c (dN hc)) Jn Jn ?_;have s5:Same H' (upd H' pp (.tup [V.int i,V.int c])):=Same.upd hpp;have sm5:=sm.trans s5;have hS5:=s5 _ _ hSx;have hK5:=hK.keep s5.ts (Kept.of s5);have hB5:=sm5.seq hB;generalize upd H' pp (.tup [V.int i,V.int c])=H5 at s5 sm5 hS5 hK5 hB5 ⊢;clear hSx hK;have lx:=hK5.length;have g0:=fB c i;unfold c6 at hN;generalize cc c i=g at g0 hN ⊢;have y0:0<=g % 12:=cI _ Jm;have y1:g % 12<12:=dw _ Jm;have trk:∀c'∈S::f,∃u,H5 c'=some u:=fun c' hc'=>by
    rcases zq1.mp hc' with z | z
    ·exact ⟨_,by rw [z];exact hS5⟩
    ·obtain ⟨u,hu⟩:=hK5.tracked c' z;exact ⟨_,hu⟩
   dsimp only at l1 l9 few lx hN;refine tL (SqL.of hS5) (fun e1 c2=>?_) (fun e1=>?_)
   ·have c1:g % 12<2/\1<es.length:=⟨e1,Jn⟩
    rw [if_pos c1] at hN;obtain ⟨e,e2,es',rfl⟩:∃e e2 es',es=e::e2::es':=by
     match es,c1.2 with
     |e::e2::es',_=>exact zW e e2 es' rfl
    obtain ⟨xs',x,f',g',rfl,rfl,h1,h2⟩:=hK5.inv;obtain ⟨qq,ra,oo,ys,zs,fa,fo,rfl,hq,ha,hr1,ho,hr2,rfl⟩:=id h2;refine mO (SqL.of hS5) hq (fun e3 e4=>?_) (fun e3=>?_)
    ·dsimp only at hN;rw [if_pos ⟨e3,e4⟩] at hN;refine ⟨.inl ⟨rfl,_,SqL.of hS5⟩,zB _ (.ref qq) hS5 Jo ?_⟩;rwa [];have edl:(xs'++[V.ref qq]).dropLast=xs':=by simp
     rw [edl];have tt:TSame H5 (upd H5 S (.lst xs')):=TSame.updL hS5;have nS:S∉(ra::oo::(fa++fo))++f':=(zq16.mp nd).1;refine zF _ (tt.seqT hq) rfl ?_;rwa [];refine ⟨.inl ⟨rfl,_,SqL.of upd_same⟩,fun u1 hu1 u2 hu2=>?_⟩;have sB:Same H (upd H5 S (.lst xs')):=sm5.updM (fr S Jo);have nSa:¬ra=S:=fun z=>nS (by rw [z];simp);have nSfa:S∉fa:=fun z=>nS (by simp [z]);have nSf:S∉f':=fun z=>nS (by simp [z]);have ha1:upd H5 S (.lst xs') ra=some (.lst ys):=by rw [aC nSa];exact ha
     have k1:=h1.keep tt (Kept.upd (o:=.lst xs') nSf);have r1:=hr1.keep tt (Kept.upd (o:=.lst xs') nSfa);have t1:=Same.upd (o:=.lst []) hu1;have t2:=t1.updN (o:=.tup [V.str "else",V.ref u1,V.str e.name,V.ref ra]) hu2;have nd3:(S::((ra::fa)++f')).Nodup:=by refine nd.sublist (.cons_cons _ (List.Sublist.append (.cons_cons _ (.cons _ (mI _ _))) (List.Sublist.refl _)))
     have sub3:∀c'∈S::((ra::fa)++f'),c'∈S::((ra::oo::(fa++fo))++f'):=fun c' hc'=>by simp only [List.cons_append,List.mem_cons,List.mem_append] at hc' ⊢;rcases hc' with z | z | z | z<;>simp [z]
     have no1:u1∉S::((ra::fa)++f'):=fun z=>by
      have ex:∃u,upd H5 S (.lst xs') u1=some u:=by
       by_cases zS:u1=S
       ·exact ⟨_,by rw [zS];exact upd_same⟩
       ·obtain ⟨u,hu⟩:=trk u1 (sub3 u1 z);exact ⟨u,by rw [aC zS];exact hu⟩
      obtain ⟨u,hu⟩:=ex;rw [hu1] at hu;cases hu
     refine zF xs' (t2 _ _ upd_same) (by simp at lx l9;rw [sizeLine_eq];omega) (hN _ _ ⟨zC (kT (fo:=fa) (sB.trans t2) (t2 _ _ upd_same) (k1.keep t2.ts (Kept.of t2)) (Same.upd hu2 _ _ upd_same) (t2 _ _ ha1) (r1.same t2) (SqT.of upd_same) ?_ (fun c' hc'=>?_) (fun e' he'=>by have:=few e' (zq2 _ he');omega)) Jo (by simpa using l9),zR _ _ _ _ _ _ _ _ rfl⟩)
     ·have n4:(u1::S::((ra::fa)++f')).Nodup:=zq16.mpr ⟨no1,nd3⟩;exact (List.Perm.nodup_iff (List.Perm.swap S u1 _)).mp n4
     ·by_cases z1:c'=u1
      ·rw [z1];exact sB.free hu1
      ·refine fr c' (sub3 c' ?_);simp only [List.cons_append,List.mem_cons] at hc' ⊢;rcases hc' with z | z | z
       ·exact .inl z
       ·exact absurd z z1
       ·exact .inr z
    ·dsimp only at hN;rw [if_neg e3] at hN;refine zd H e e2 es' i (zC ⟨sm5,zD _ _ hS5 hK5 nd fr,few⟩ Jn fun H6 k6=>hN _ _ ⟨zC k6 ?_ ?_,zR _ _ _ _ _ _ _ _ rfl⟩)
     ·rw [b8];omega
     ·rw [b8];simp at l9;omega
   ·have c1:¬(g % 12<2/\1<es.length):=fun z=>e1 ⟨z.1,Jn⟩;rw [if_neg c1] at hN;refine aS (fun e2=>?_) (fun e2=>?_)
    ·rw [if_pos e2] at hN;refine xU (SqL.of hS5) hB5 (fun e3 e4 e5=>?_) (fun e3=>?_)
     ·have hne:¬ns=[]:=fun z=>by rw [z] at e5;simp at e5
      rw [if_pos ⟨e3,Jn,hne⟩] at hN;refine ⟨.inl ⟨rfl,_,SqL.of hS5⟩,fun u1 hu1=>zB _ _ (SqL.of upd_same) (tV Jn Jn) fun u2 hu2=>?_⟩;have t1:=Same.upd (o:=.lst [V.str "if",V.str "while",V.str "if"]) hu1;have t2:=t1.updN (o:=.lst []) hu2;refine ⟨CDivB.small Jm Jm,zF _ (.inl (t2.seq hB5)) (by rw [zq0];have:=zq57.mpr hne;omega) (zB _ _ (t2.seq hB5) (by rw [zq0];exact hG hne) fun u3 hu3 u4 hu4=>?_)⟩;have t3:=t2.updN (o:=.lst []) hu3;have t4:=t3.updN (o:=.tup [V.str (kd3 (g % 12-2)).str,V.ref u2,V.str (eZ (g / 12) ns),V.ref u3]) hu4;have m2:=t1.free hu2;have m3:=t2.free hu3;have n23:¬u2=u3:=fun z=>by rw [<- z,upd_same] at hu3;cases hu3
      have no2:u2∉S::f:=fun z=>by obtain ⟨u,hu⟩:=trk u2 z;rw [m2] at hu;cases hu
      have no3:u3∉S::f:=fun z=>by obtain ⟨u,hu⟩:=trk u3 z;rw [m3] at hu;cases hu
      refine zF xs (t4 _ _ hS5) (by rw [sizeLine_eq];omega) (hN _ _ ⟨zC (kT (fo:=[]) (sm5.trans t4) (t4 _ _ hS5) (hK5.keep t4.ts (Kept.of t4)) (Same.upd hu4 _ _ (Same.upd hu3 _ _ upd_same)) (Same.upd hu4 _ _ upd_same) .nil (SqT.of upd_same) ?_ (fun c' hc'=>?_) (fun e he=>by have:=few e he;omega)) Jo (by simp;omega),zR _ _ _ _ _ _ _ _ rfl⟩)
      ·have n1:=zq16.mp nd;simp only [List.cons_append,List.nil_append,List.nodup_cons,List.mem_cons,not_or] at no2 no3 ⊢;exact zH (zC (fun z=>no2.1 z.symm) (fun z=>no3.1 z.symm) n1.1) ⟨n23,no2.2⟩ no3.2 n1.2
      ·simp only [List.cons_append,List.nil_append,List.mem_cons] at hc';rcases hc' with z | z | z | z
       ·exact fr c' (by rw [z];simp)
       ·rw [z];exact sm5.free m2
       ·rw [z];exact sm5.free m3
       ·exact fr c' (zq2 _ z)
     ·have c3:¬(g % 12<5/\es.length<9/\¬ns=[]):=fun z=>e3 (zC z.1 Jn (by have:=zq57.mpr z.2.2;rw [zq0];omega));rw [if_neg c3] at hN;obtain ⟨e,es',rfl⟩:∃e es',es=e::es':=by
       match es,l1 with
       |e::es',_=>exact zN e es' rfl
      refine ⟨CDivB.small Jm Jm,zG ns hB5 w0 w8 fun p6 H6 s6 hp6 ht6=>?_⟩;refine zR H xs e es' f ([]) (.deed (cO (g / 12) ns w)) i (zc (sm5.trans s6) (s6 _ _ hS5) (hK5.keep s6.ts (Kept.of s6)) (.deed eT (SqT.of (by rw [lP];exact ht6))) (by rw [fU];exact nd) (fun c' hc'=>fr c' (by rw [fU] at hc';exact hc')) few Jn fun H7 k7=>?_);exact hN _ _ ⟨zC k7 (by simp [gg]) (by simpa [gg] using l9),zR _ _ _ _ _ _ _ _ rfl⟩
    ·rw [if_neg e2] at hN;exact hN _ _ ⟨zC ⟨sm5,zD _ _ hS5 hK5 nd fr,fun e he=>by have:=few e he;omega⟩ l1 l9,zR _ _ _ _ _ _ _ _ rfl⟩
  ·intro σ H' hv;obtain ⟨⟨ok,l1,l9⟩,o6,o7,o8,o9,o10,o11,o12,o13,rfl⟩:=hE _ _ _ hv;clear hv hI hE;rw [zq0,f6] at *;exact ⟨zG _ lcs ok l1 l9,za _ _ _ _ _ _ _ _ _ rfl⟩
 ·rintro σ H' ⟨⟨B,hB63,ok,l1,l9⟩,o5,o6,o7,o8,o9,o10,o11,o12,o13,rfl⟩;obtain ⟨μ,hμ⟩:∃μ:L2.St->Hp->Nat,μ=fun _ H'=>match H' S with | some (.lst xs)=>xs.length | _=>0:=⟨_,rfl⟩
  refine gE (fun σ H'=>(∃es B,c9 K H H' S es B/\B+es.length<=80/\1<=es.length/\bo es=dC cs ns w most)/\∃o5 o6 o7 o8 o9 o10 o11 o12 o13,σ=[some (.ref a),some (.ref b),some (.int w),some (.int most),some (.ref S),o5,o6,o7,o8,o9,o10,o11,o12,o13])
   μ ⟨zD _ B ok Jn l1 rfl,za _ _ _ _ _ _ _ _ _ rfl⟩ ?_
  ·rintro σ H2 ⟨⟨es,B2,ok2,hb2,le2,hcl⟩,o5,o6,o7,o8,o9,o10,o11,o12,o13,rfl⟩;obtain ⟨sm,⟨xs,f,hSx,hK,nd,fr⟩,few⟩:=id ok2;have lx:=hK.length;rwa [ee];refine zA _ (.inl (SqL.of hSx)) (aS (fun e1=>?_) (fun e1=>?_))
   ·obtain ⟨e,e2,es',rfl⟩:∃e e2 es',es=e::e2::es':=by
     match es,(show 1<es.length by omega) with
     |e::e2::es',_=>exact zW e e2 es' rfl
    refine zA (fun σ H'=>((∃es B,c9 K H H' S es B/\B+es.length<=80/\1<=es.length/\bo es=dC cs ns w most)/\∃o5 o6 o7 o8 o9 o10 o11 o12 o13,σ=[some (.ref a),some (.ref b),some (.int w),some (.int most),some (.ref S),o5,o6,o7,o8,o9,o10,o11,o12,o13])/\μ σ H'<μ [some (.ref a),some (.ref b),some (.int w),some (.int most),some (.ref S),o5,o6,o7,o8,o9,o10,o11,o12,o13] H2) (fun σ' H' h=>zF _ h.2 rfl h.1) ?_;refine zd H e e2 es' B2 (zC ok2 Jn fun H3 k3=>⟨⟨zD _ (B2+1) k3 (by rw [b8];simp at hb2;omega) (by rw [b8];omega) ?_,za _ _ _ _ _ _ _ _ _ rfl⟩,?_⟩)
    ·rw [<- hcl];show bo (e2.add (bB e)::es')=_;rw [bo]
    ·obtain ⟨_,⟨xs3,f3,hS3,hK3,_,_⟩,_⟩:=k3;have l3:=hK3.length;rw [b8] at l3;rw [hμ];dsimp only;rw [hS3,hSx];simp at lx;show xs3.length<xs.length;omega
   ·obtain ⟨e,rfl⟩:∃e,es=[e]:=by
     match es,le2,(show es.length<=1 by omega) with
     | [e],_,_=>exact ⟨e,rfl⟩
    obtain ⟨xs',x,f',g',rfl,rfl,h1,h2⟩:=hK.inv
    cases h1
    obtain ⟨qq,ra,oo,ys,zs,fa,fo,rfl,hq,ha,hr1,ho,hr2,rfl⟩:=id h2;have hcl':e.rows=dC cs ns w most:=by rw [<- hcl,bo]
    refine zB _ _ (SqL.of hSx) rfl ?_;rwa [];refine zB _ _ hq rfl (q ra ys fa H2 sm ha (by rw [<- hcl'];exact hr1) ?_ (fun c hc=>fr c ?_))
    ·exact nd.sublist (.cons _ (by rw [fU];exact .cons_cons _ (.cons _ (mI _ _))))
    ·simp only [List.append_nil,List.cons_append,List.mem_cons,List.mem_append] at hc ⊢;rcases hc with z | z<;>simp [z]
theorem gu{a b:Addr}{w most:Int}{H:Hp}{Q:VK}{E:XK}:fK K [.ref a,.ref b,.int w,.int most] H Q E=∃(cs:List Int)(ns:List Str),SqL K H a (cs.map V.int)/\cs.length<=63/\(∀z∈cs,Builtin.Int.intBits z<=2 ^ 20)/\SqL K H b (ns.map V.str)/\0<=w/\w<=8/\
 ∀p xs f H',Same H H'->H' p=some (.lst xs)->StmsV K H' xs (dC cs ns w most) f->(p::f).Nodup->(∀c∈p::f,H c=none)->Q (.ref p) H':=propext ⟨by rintro ⟨_,_,_,_,e,q⟩;cases e;exact q,fun q=>zV _ _ _ _ rfl q⟩
def dq(K:W.Frag)(d:Nat):Sp:=fun vs H Q _=>∃(a:Addr)(xs:List V)(ss:List Stm)(f:List Addr),vs=[.ref a]/\H a=some (.lst xs)/\StmsV K H xs ss f/\aO ss<d/\aE ss<=1000/\
 ∀p ys g H',Same H H'->H' p=some (.lst ys)->StmsV K H' ys ss g->(p::g).Nodup->(∀c∈p::g,H c=none)->Q (.ref p) H'
def eg(K:W.Frag)(d:Nat):Sp:=fun vs H Q _=>∃(x:V)(s:Stm)(f:List Addr),vs=[x]/\StmV K H x s f/\s.deep<d/\s.many<=1000/\
 ∀y g H',Same H H'->StmV K H' y s g->g.Nodup->(∀c∈g,H c=none)->Q y H'
theorem oQ{d:Nat}{x:V}{H:Hp}{Q:VK}{E:XK}:eg K d [x] H Q E=∃(s:Stm)(f:List Addr),StmV K H x s f/\s.deep<d/\s.many<=1000/\∀y g H',Same H H'->StmV K H' y s g->g.Nodup->(∀c∈g,H c=none)->Q y H':=
 propext ⟨by rintro ⟨_,s,f,e,q⟩;cases e;exact zN s f q,by rintro ⟨s,f,q⟩;exact zI x s f rfl q⟩
theorem bt{d:Nat}{a:Addr}{H:Hp}{Q:VK}{E:XK}:dq K d [.ref a] H Q E=∃(xs:List V)(ss:List Stm)(f:List Addr),H a=some (.lst xs)/\StmsV K H xs ss f/\aO ss<d/\aE ss<=1000/\
 ∀p ys g H',Same H H'->H' p=some (.lst ys)->StmsV K H' ys ss g->(p::g).Nodup->(∀c∈p::g,H c=none)->Q (.ref p) H':=
 propext ⟨by rintro ⟨_,xs,ss,f,e,q⟩;cases e;exact zW xs ss f q,by rintro ⟨xs,ss,f,q⟩;exact zV a xs ss f rfl q⟩
theorem eR(T:Txt K mg t)(d:Nat)(G_102:FnOk P w K mg base CX0 (2 * d+1) t.f_102 t.e_102 ["row"] (eg K d)):FnOk P w K mg base CX0 (2 * d+2) t.f_101 t.e_101 ["rows"] (dq K d):=by
 refine T.d_101.F.ok vc ∅ ?_;rintro cdv A outer s H vs Q E hr ⟨a,xs,ss,f,rfl,ha,hx,hd,hl,q⟩;refine ⟨_,
   (XSs.h
   (af
    (ay (bX (tns:=["row"]) (cns:=[]) (ci:=[]) rfl (CompSc.of Jl) (bJ (yqv 0 vl)) (fun _=>(aK (i:=1) (show List.Nodup [(".0":Str),("row":Str)] by decide +kernel) rfl ll (Or.inr Jl))) (fun _=>cg) (fun _=>(ap T.d_102 G_102 hr.m (aa (yqv 1 vl) ab) gl)))))),?_⟩
 rw [show start _ [V.ref a]=[some (.ref a)] from rfl];rwa [oQ];refine ⟨⟨_,SqL.of ha⟩,fun acc hacc bk=>?_⟩;have lx:=hx.length;have lm:=d4 ss;refine gL (xs:=xs) (fun i ys H'=>Same H H'/\H' acc=some (.lst ys)/\ys.length=i/\∃g,StmsV K H' ys (ss.take i) g/\(acc::g).Nodup/\∀c∈acc::g,H c=none) ?_ ?_ ?_ ?_
 ·exact zH (Same.upd hacc) upd_same rfl (zF ([]) .nil Jo fun c hc=>by rw [zq9.mp hc];exact hacc)
 ·intro i ys H' _ h;exact SqL.of (h.1 _ _ ha)
 ·rintro i x ys H' os hxi ho ⟨sm,hacc2,ly,g,hg,nd,fr⟩
  match os,ho with
  | [o],_=>
   rwa [oQ];refine ⟨zA ([some x]) rfl rfl,?_⟩;rw [if_pos trivial];obtain ⟨s,f',hs,hsv,_⟩:=hx.get hxi;have hi:i<ss.length:=(zq19.mp hs).1;have hse:ss[i]=s:=(zq19.mp hs).2;have hds:=ck (dN hs);refine zD s f' (hsv.same sm) Jn (by have:=d5 (dN hs);omega) fun y g2 H2 s2 hy nd2 fr2=>?_;have na:acc∉g:=(zq16.mp nd).1;have na2:acc∉g2:=fun z=>by rw [fr2 acc z] at hacc2;cases hacc2
   have tt:TSame H2 (upd H2 acc (.lst (ys++[y]))):=TSame.updL (s2 _ _ hacc2);refine zT (s2 _ _ hacc2) (by rw [sizeLine_eq];omega) ((sm.trans s2).updM hacc) upd_same (by simp [ly]) (zF (g++g2) ?_ ?_ fun c hc=>?_)
   ·rw [fW hi,hse];exact ((hg.same s2).keep tt (Kept.upd na)).snoc (hy.keep tt (Kept.upd na2))
   ·refine zq16.mpr ⟨fun z=>(zq10.mp z).elim na na2,gk (zq16.mp nd).2 nd2 fun c h1 h2=>?_⟩;obtain ⟨zs,hz⟩:=hg.tracked c h1;rw [fr2 c h2] at hz;cases hz
   ·rcases zq1.mp hc with z | z
    ·rw [z];exact hacc
    ·rcases zq10.mp z with z | z
     ·exact fr c (zq2 _ z)
     ·exact sm.free (fr2 c z)
 ·rintro ys H' ⟨sm,hacc2,ly,g,hg,nd,fr⟩;rw [lx,f6] at hg;exact q acc ys g H' sm hacc2 hg nd fr
theorem lO(T:Txt K mg t)(d:Nat)(G_101:FnOk P w K mg base CX0 (2 * d+2) t.f_101 t.e_101 ["rows"] (dq K d)):FnOk P w K mg base CX0 (2 * (d+1)+1) t.f_102 t.e_102 ["row"] (eg K (d+1)):=by
 refine T.d_102.F.ok vd ∅ ?_;rintro cdv A outer s H vs Q E hr ⟨x,s,f,rfl,hx,hd,hm,q⟩;refine ⟨_,
   (XSs.h
   (ae
    (aF (ak bf (am aJ (yqv 0 vl) ac) aq (aB _))
     (af
      (ay (aX (aa aq (aa (am aJ (yqv 0 vl) ac) (aa (ap T.d_101 G_101 hr.m (aa (am aJ (yqv 0 vl) ac) ab) gl) (aa (ap T.d_101 G_101 hr.m (aa (am aJ (yqv 0 vl) ac) ab) gl) ab)))))))
     aA)
   (ae
    (aF (ak bf (am aJ (yqv 0 vl) ac) aq (aB _))
     (af
      (ay (aX (aa aq (aa (am aJ (yqv 0 vl) ac) (aa (ap T.d_101 G_101 hr.m (aa (am aJ (yqv 0 vl) ac) ab) gl) ab))))))
     aA)
   (af
    (ay (yqv 0 vl)))))),?_⟩
 rw [show start _ [x]=[some x] from rfl]
 cases hx with
 | @deed q0 dd hf hq=>
  rwa [bt];refine kC hf hq Jk Jk Jk (zA _ rfl ?_);rw [if_neg zq3];refine kC hf hq Jk Jk Jk (zA _ rfl ?_);rw [if_neg zq3];exact q _ [] H (Same.refl H) (.deed hf hq) Jo (fun c hc=>by cases hc)
 | @ifs q0 a b n xs ys ones others f g hq ha hb h1 h2=>
  simp only [Stm.deep,Stm.many] at hd hm;rwa [bt];refine zB _ _ hq rfl ?_;rwa [bt];refine aS (fun _=>zB _ _ hq rfl (zB _ _ hq rfl ?_)) (fun z=>absurd trivial z);rwa [bt];refine zQ xs ones f ha h1 Jn Jn fun p1 zs1 g1 H1 s1 e1 k1 nd1 fr1=>zB _ _ (s1.seqT hq) rfl ?_;rwa [bt];refine zQ ys others g (s1 _ _ hb) (h2.same s1) Jn Jn fun p2 zs2 g2 H2 s2 e2 k2 nd2 fr2 p3 hp3=>?_;have s3:=Same.upd (o:=.tup [V.str "if",V.str n,V.ref p1,V.ref p2]) hp3;have s12:=s1.trans s2;refine q _ (p1::p2::(g1++g2)) _ (s12.trans s3) (.ifs (SqT.of upd_same) (s3 _ _ (s2 _ _ e1)) (s3 _ _ e2) ((k1.same s2).same s3) (k2.same s3)) ?_ (fun c hc=>?_)
  ·have dj:∀c∈p1::g1,c∉p2::g2:=fun c h1 h2=>by
    have ex:∃u,H1 c=some u:=by
     rcases zq1.mp h1 with z | z
     ·exact ⟨_,by rw [z];exact e1⟩
     ·obtain ⟨u,hu⟩:=k1.tracked c z;exact ⟨_,hu⟩
    obtain ⟨u,hu⟩:=ex;rw [fr2 c h2] at hu;cases hu
   have n5:=gk nd1 nd2 dj;refine (List.Perm.nodup_iff ?_).mp n5;rw [k9];exact .cons _ List.perm_middle
  ·rcases zq1.mp hc with z | z
   ·rw [z];exact fr1 p1 Jo
   rcases zq1.mp z with z | z
   ·rw [z];exact s1.free (fr2 p2 Jo)
   rcases zq10.mp z with z | z
   ·exact fr1 c (zq2 _ z)
   ·exact s1.free (fr2 c (zq2 _ z))
 | @whl q0 a n xs rows f hq ha h1=>simp only [Stm.deep,Stm.many] at hd hm;rwa [bt];refine zB _ _ hq rfl ?_;rwa [bt];refine aS (fun z=>absurd z Jk) (fun _=>zB _ _ hq rfl ?_);rwa [bt];refine aS (fun _=>zB _ _ hq rfl (zB _ _ hq rfl ?_)) (fun z=>absurd trivial z);rwa [bt];refine zQ xs rows f ha h1 Jn Jn fun p1 zs1 g1 H1 s1 e1 k1 nd1 fr1 p3 hp3=>?_;have s3:=Same.upd (o:=.tup [V.str "while",V.str n,V.ref p1]) hp3;exact q _ (p1::g1) _ (s1.trans s3) (.whl (SqT.of upd_same) (s3 _ _ e1) (k1.same s3)) nd1 fr1
theorem gm(T:Txt K mg t):∀d,FnOk P w K mg base CX0 (2 * d+1) t.f_102 t.e_102 ["row"] (eg K d)/\FnOk P w K mg base CX0 (2 * d+2) t.f_101 t.e_101 ["rows"] (dq K d)
 |0=>by
  have h0:FnOk P w K mg base CX0 (2 * 0+1) t.f_102 t.e_102 ["row"] (eg K 0):=⟨fun vs H Q E h=>by obtain ⟨_,_,_,_,_,h,_⟩:=h;omega,fun _ _ _ _ _ _ _ _ _ _ _ _ _ h=>by obtain ⟨_,_,_,_,_,h,_⟩:=h;omega⟩
  exact ⟨h0,eR T 0 h0⟩
 |d+1=>by have h1:=lO T d (gm T d).2;exact ⟨h1,eR T (d+1) h1⟩
def ke(K:W.Frag)(C:Addr)(d:Nat)(p:Addr)(a0:Addr)(b0:Addr)(r0:Addr)(wd:Int)(H:Hp)(Q:VK):Prop:=∃(dx:Addr)(ins:List Str)(oth:List Str)(xs:List V)(ss:List Stm)(f:List Addr),H p=some (.ins C dx [])/\
 H a0=some (.lst (ins.map V.str))/\H b0=some (.lst (oth.map V.str))/\H r0=some (.lst xs)/\StmsV K H xs ss f/\aO ss<d/\aE ss<=1000/\ins.length<=1000/\oth.length<=1000/\
 ∀a b r ys g H',SameX p H H'->ProgAt K C H' p wd ins oth ss a b r ys g->(a::b::r::g).Nodup->(∀c∈a::b::r::g,H c=none)->Q .non H'
def lg(K:W.Frag)(C:Addr)(d:Nat):Sp:=fun vs H Q _=>∃(p:Addr)(a0:Addr)(b0:Addr)(r0:Addr)(wd:Int),vs=[.ref p,.int wd,.ref a0,.ref b0,.ref r0]/\ke K C d p a0 b0 r0 wd H Q
theorem kL(T:Txt K mg t)(d:Nat):FnOk P w K mg base CX0 (2 * d+3) t.f_100 t.e_100 ["self","width","ins","boxes","rows"] (lg K t.C_Program d):=by
 have G_101:=(@gm P w K mg base t T d).2;refine T.d_100.F.ok vb ∅ ?_;rintro cdv A outer s H vs Q E hr ⟨p,a0,b0,r0,wd,rfl,dx,ins,oth,xs,ss,f,hp,ha,hb,hr0,hx,hd,hm,hi,ho,q⟩;refine ⟨_,
   (XSs.h
   (ae
    (bG (yqv 0 vl) (yqv 1 vl) rfl)
   (ae
    (bG (yqv 0 vl) (aN bD gl T.z_list boot_list (aa (yqv 2 vl) ab)) rfl)
   (ae
    (bG (yqv 0 vl) (aj br (aN bD gl T.z_list boot_list (aa (yqv 2 vl) ab)) (aN bD gl T.z_list boot_list (aa (yqv 3 vl) ab))) rfl)
   (af
    (bG (yqv 0 vl) (ap T.d_101 G_101 hr.m (aa (yqv 4 vl) ab) gl) rfl)))))),?_⟩
 rw [show start _ [V.ref p,V.int wd,V.ref a0,V.ref b0,V.ref r0]=[some (.ref p),some (.int wd),some (.ref a0),some (.ref b0),some (.ref r0)] from rfl];rwa [bt];have na:a0≠p:=iL ha hp (by intro z;cases z);have nb:b0≠p:=iL hb hp (by intro z;cases z);have nr:r0≠p:=iL hr0 hp (by intro z;cases z);refine eo hp T.c_Program.cl T.n_Program_width Jo ?_;rw [bI Jp,List.nil_append];obtain ⟨H1,hH1⟩:∃H1,H1=upd H p (.ins t.C_Program dx [("width",V.int wd)]):=⟨_,rfl⟩
 rw [<- hH1];have e1:H1 p=some (.ins t.C_Program dx [("width",V.int wd)]):=by rw [hH1];exact upd_same
 have s1:SameX p H H1:=by rw [hH1];exact SameX.upd
 have t1:TSame H H1:=by rw [hH1];exact TSame.updI hp
 rwa [bt];refine zA _ (.inl (SqL.of (s1 _ _ ha na))) fun l1 hl1=>?_;have np1:p≠l1:=aw e1 hl1;refine eo (by rw [aC np1];exact e1) T.c_Program.cl T.n_Program_ins Jo ?_;rw [bI Jl];obtain ⟨H2,hH2⟩:∃H2,H2=upd (upd H1 l1 (.lst (ins.map V.str))) p (.ins t.C_Program dx ([(("width":Str),V.int wd)]++[(("ins":Str),V.ref l1)])):=⟨_,rfl⟩
 rw [<- hH2];have e2:H2 p=some (.ins t.C_Program dx ([(("width":Str),V.int wd)]++[(("ins":Str),V.ref l1)])):=by rw [hH2];exact upd_same
 have s2:SameX p H1 H2:=by rw [hH2];exact (SameX.of (Same.upd hl1)).trans SameX.upd
 have k2:H2 l1=some (.lst (ins.map V.str)):=by rw [hH2,aC np1.symm];exact upd_same
 have t2:TSame H1 H2:=by rw [hH2];exact (Same.upd hl1).ts.trans (TSame.updI (by rw [aC np1];exact e1))
 have s02:=s1.trans s2;rwa [bt];refine zA _ (.inl (SqL.of (s02 _ _ ha na))) fun l2 hl2=>?_;have s3:=Same.upd (o:=.lst (ins.map V.str)) hl2;refine zA _ (.inl (SqL.of (s3 _ _ (s02 _ _ hb nb)))) fun l3 hl3=>?_;have s4:=s3.trans (Same.upd (o:=.lst (oth.map V.str)) hl3);refine zD _ _ (by rw [aC (aw upd_same hl3)];exact upd_same) upd_same (by rw [sizeLine_eq];simp only [List.length_map];omega) fun l4 hl4=>?_;have s5:=s4.trans (Same.upd (o:=.lst (ins.map V.str++oth.map V.str)) hl4);refine eo (s5 _ _ e2) T.c_Program.cl T.n_Program_boxes Jo ?_;rw [bI Jl];have np4:p≠l4:=aw (s4 _ _ e2) hl4;obtain ⟨H3,hH3⟩:∃H3,H3=upd (upd (upd (upd H2 l2 (.lst (ins.map V.str))) l3 (.lst (oth.map V.str))) l4 (.lst (ins.map V.str++oth.map V.str))) p (.ins t.C_Program dx ([(("width":Str),V.int wd)]++[(("ins":Str),V.ref l1)]++[(("boxes":Str),V.ref l4)])):=⟨_,rfl⟩
 rw [<- hH3];have e3:H3 p=some (.ins t.C_Program dx ([(("width":Str),V.int wd)]++[(("ins":Str),V.ref l1)]++[(("boxes":Str),V.ref l4)])):=by rw [hH3];exact upd_same
 have s23:SameX p H2 H3:=by rw [hH3];exact (SameX.of s5).trans SameX.upd
 have k4:H3 l4=some (.lst (ins.map V.str++oth.map V.str)):=by rw [hH3,aC np4.symm];exact upd_same
 have t3:TSame H2 H3:=by rw [hH3];exact s5.ts.trans (TSame.updI (s5 _ _ e2))
 have s03:=s02.trans s23;rwa [bt];have pf:p∉f:=fun z=>by obtain ⟨zs,hz⟩:=hx.tracked p z;rw [hp] at hz;cases hz
 refine zQ xs ss f (s03 _ _ hr0 nr) (hx.keep ((t1.trans t2).trans t3) (fun c hc o e=>s03 c o e (fun z=>pf (by rw [<- z];exact hc)))) hd hm fun r ys g H4 s34 e4 k5 nd fr=>?_;refine eo (s34 _ _ e3) T.c_Program.cl T.n_Program_rows Jo ?_;rw [bI Jl];have pg:p∉r::g:=fun z=>by rw [fr p z] at e3;cases e3
 have npr:r≠p:=fun z=>pg (by rw [z];exact zq4);have nl1:l1≠p:=np1.symm;have nl4:l4≠p:=np4.symm;have n14:l1≠l4:=aw (s4 _ _ k2) hl4;have f1:H l1=none:=s1.free e1 hl1;have f4:H l4=none:=s02.free e2 (s4.free hl4);have k3:H3 l1=some (.lst (ins.map V.str)):=s23 _ _ k2 nl1;refine q l1 l4 r ys g _ (s03.trans ((SameX.of s34).trans SameX.upd)) ⟨⟨dx,upd_same⟩,?_,?_,?_,?_⟩ ?_ ?_
 ·rw [aC nl1];exact s34 _ _ k3
 ·rw [aC nl4,zq6];exact s34 _ _ k4
 ·rw [aC npr];exact e4
 ·exact k5.keep (TSame.updI (s34 _ _ e3)) (Kept.upd fun z=>pg (zq2 _ z))
 ·have a1:l1∉r::g:=fun z=>by rw [fr l1 z] at k3;cases k3
  have a4:l4∉r::g:=fun z=>by rw [fr l4 z] at k4;cases k4
  refine zq16.mpr ⟨fun z=>?_,zq16.mpr ⟨a4,nd⟩⟩;rcases zq1.mp z with z | z
  ·exact n14 z
  ·exact a1 z
 ·intro c hc;rcases zq1.mp hc with z | hc
  ·rw [z];exact f1
  rcases zq1.mp hc with z | hc
  ·rw [z];exact f4
  exact s03.free e3 (fr c hc)
theorem qk:∀c,c<128->(!(Builtin.Str.occurrences LETS ⟨#[c]⟩ 0 LETS.length 1).isEmpty)=decide (97<=c/\c<=122):=by decide +kernel
theorem qj:∀c,c<128->(!(Builtin.Str.occurrences FIGS ⟨#[c]⟩ 0 FIGS.length 1).isEmpty)=decide (48<=c/\c<=57):=by decide +kernel
def gA:Sp:=fun vs H Q _=>∃x:Str,vs=[.str x]/\fQ x=true/\x.length<=1000/\∀H',Same H H'->Q (.bl (bH x)) H'
theorem d7{x:Str}{H:Hp}{Q:VK}{E:XK}:gA [.str x] H Q E=(fQ x=true/\x.length<=1000/\∀H',Same H H'->Q (.bl (bH x)) H'):=propext ⟨by rintro ⟨_,e,q⟩;cases e;exact q,fun q=>zA _ rfl q⟩
theorem me(T:Txt K mg t):FnOk P w K mg base CX0 2 t.f_112 t.e_112 ["word"] gA:=by
 refine T.d_112.F.ok vf ∅ ?_;rintro cdv A outer s H vs Q E hr ⟨x,rfl,ha,hl,q⟩;refine ⟨_,
   (XSs.h
   (af
    (ay (fj (mD i6 i6 ac (av gK gl T.z_len PySem.boot_len (aa (yqv 0 vl) ab)) (bM (v:=.int 6) gl T.g_LONGEST_NAME ⟨_,rfl⟩)) (fm (av (ir rfl) gl T.z_all boot_all (aa (bX (tns:=["sign"]) (cns:=[]) (ci:=[]) rfl (CompSc.of Jl) (lw (yqv 0 vl)) (fun _=>(aK (i:=1) (show List.Nodup [(".0":Str),("sign":Str)] by decide +kernel) rfl ll (Or.inr Jl))) (fun _=>cg) (fun _=>(cv gr (yqv 1 vl) (bM (v:=.str "abcdefghijklmnopqrstuvwxyz") gl T.g_LETTERS ⟨_,rfl⟩) rfl))) ab))))))),?_⟩
 rw [show start _ [V.str x]=[some (.str x)] from rfl];rwa [];unfold i4;rwa [];refine zF x rfl (by rw [sizeLine_eq];omega) ?_
 by_cases h1:1<=x.length
 ·rw [if_pos (decide_eq_true Jn)]
  by_cases h2:x.length<=6
  ·rw [if_pos (decide_eq_true Jn)];refine zF x rfl ha fun acc hacc bk=>?_;refine ko (fun c=>.bl (decide (97<=c/\c<=122))) (by show x.length<=_;rw [sizeLine_eq];omega) hacc (fun c H' Q' hc h=>?_) (zA (x.cps.toList.map fun c=>decide (97<=c/\c<=122)) (SqL.of (by rw [upd_same,pX];rfl)) ?_)
   ·rwa [];have z:=qk c (mP ha hc);unfold LETS at z;rw [z];exact h
   ·have z:=q _ (Same.upd (o:=.lst (x.cps.toList.map fun c=>V.bl (decide (97<=c/\c<=122)))) hacc);unfold bH at z;rw [decide_eq_true h1,decide_eq_true h2,mH,mH] at z;rw [List.all_map];exact z
  ·rw [if_neg (by simp;omega)];have z:=q H (Same.refl _);unfold bH at z;rw [decide_eq_false h2,vN,ib] at z;exact z
 ·rw [if_neg (by simp;omega)];have z:=q H (Same.refl _);unfold bH at z;rw [decide_eq_false h1,ib,ib] at z;exact z
def j2:Sp:=fun vs H Q _=>∃x:Str,vs=[.str x]/\fQ x=true/\x.length<=1000/\∀H',Same H H'->Q (.bl (fE x)) H'
theorem kY{x:Str}{H:Hp}{Q:VK}{E:XK}:j2 [.str x] H Q E=(fQ x=true/\x.length<=1000/\∀H',Same H H'->Q (.bl (fE x)) H'):=propext ⟨by rintro ⟨_,e,q⟩;cases e;exact q,fun q=>zA _ rfl q⟩
theorem iN(T:Txt K mg t):FnOk P w K mg base CX0 2 t.f_113 t.e_113 ["word"] j2:=by
 refine T.d_113.F.ok vg ∅ ?_;rintro cdv A outer s H vs Q E hr ⟨x,rfl,ha,hl,q⟩;refine ⟨_,
   (XSs.h
   (ae
    (aF (aZ (bw (ak bf (yqv 0 vl) aq (aB _)) (bA (bg (eL (av (ir rfl) gl T.z_all boot_all (aa (bX (tns:=["sign"]) (cns:=[]) (ci:=[]) rfl (CompSc.of Jl) (lw (yqv 0 vl)) (fun _=>(aK (i:=1) (show List.Nodup [(".0":Str),("sign":Str)] by decide +kernel) rfl ll (Or.inr Jl))) (fun _=>cg) (fun _=>(cv gr (yqv 1 vl) (bM (v:=.str "0123456789") gl T.g_FIGURES ⟨_,rfl⟩) rfl))) ab)) (fun _=>rfl))))))
     (af
      (ay bT))
     aA)
   (af
    (ay (vG (cv bf (yqv 0 vl) aq (aB _)) (fm (cv dB (am nG (yqv 0 vl) ac) aq (aB _)))))))),?_⟩
 rw [show start _ [V.str x]=[some (.str x)] from rfl];rwa []
 by_cases e0:x=""
 ·rw [if_pos (decide_eq_true e0),if_pos trivial];have z:=q H (Same.refl _);unfold fE at z;rw [decide_eq_false (fun z=>z e0),ib,ib] at z;exact z
 ·rw [if_neg (by simpa using e0)];refine zF x rfl ha fun acc hacc bk=>?_;have t1:=Same.upd (o:=.lst (x.cps.toList.map fun c=>V.bl (decide (48<=c/\c<=57)))) hacc;refine ko (fun c=>.bl (decide (48<=c/\c<=57))) (by show x.length<=_;rw [sizeLine_eq];omega) hacc (fun c H' Q' hc h=>?_) (zA (x.cps.toList.map fun c=>decide (48<=c/\c<=57)) (SqL.of (by rw [upd_same,pX];rfl)) (zA _ rfl ?_))
  ·rwa [];have z:=qj c (mP ha hc);unfold FIGS at z;rw [z];exact h
  ·have z:=q _ t1;unfold fE at z;rw [decide_eq_true e0,mH] at z;rw [List.all_map];have ea:(x.cps.toList.all (id ∘ fun c=>decide (48<=c/\c<=57)))=x.cps.toList.all fun c=>decide (48<=c/\c<=57):=rfl;rw [ea]
   cases hb:x.cps.toList.all fun c=>decide (48<=c/\c<=57) with
   |false=>
    rw [hb,ib] at z;rw [if_pos Jm];exact z
   |true=>
    rw [hb,mH] at z;rw [if_neg Jm]
    by_cases e1:x="0"
    ·rw [if_pos (decide_eq_true e1)];rw [decide_eq_true e1,Bool.true_or] at z;exact z
    ·rw [if_neg (by simpa using e1)];rw [decide_eq_false e1,Bool.false_or] at z
     cases hx:x.cps.toList with
     |nil=>exact absurd (GQ.toList_inj (by rw [hx];decide +kernel)) e0
     |cons c r=>
      have h0:x.cps[0]?=some c:=by rw [<- xN,hx];rfl
      refine ⟨by rw [sizeLine_eq];omega,zA c (aP (j:=0) rfl) ?_⟩;have ez:decide (x.cps[0]?≠some 48)=!decide ((⟨#[c]⟩:Str)=Str.ofString "0"):=by
       rw [h0]
       by_cases e:c=48
       ·subst e;decide +kernel
       ·rw [decide_eq_true (show some c≠some 48 from fun z=>e (Option.some.inj z)),decide_eq_false (show ¬(⟨#[c]⟩:Str)=Str.ofString "0" from fun z=>e ?_)]
        ·rfl
        ·have:=congrArg (fun s:Str=>s.cps[0]?) z;exact Option.some.inj (this.trans Jk)
      rw [ez,hx] at z;exact z
def dD:Sp:=fun vs H Q _=>∃w:Int,vs=[.int w]/\0<=w/\w<=8/\Q (.int (2 ^ w.toNat)) H
theorem ef{w:Int}{H:Hp}{Q:VK}{E:XK}:dD [.int w] H Q E=(0<=w/\w<=8/\Q (.int (2 ^ w.toNat)) H):=propext ⟨by rintro ⟨_,e,q⟩;cases e;exact q,by intro q;exact zA w rfl q⟩
theorem fS(T:Txt K mg t):FnOk P w K mg base CX0 1 t.f_103 t.e_103 ["width"] dD:=by
 refine T.d_103.F.ok sc_103 ∅ ?_;rintro cdv A outer s H vs Q E hr ⟨w,rfl,h0,h8,q⟩;refine ⟨_,
   (XSs.h
   (ae
    (az (i:=1) sc_103.nd rfl ll ac)
   (ae
    (bZ PassesOwn.never rfl (cQ gl T.z_range (aa (yqv 0 vl) ab)) (aK (i:=2) sc_103.nd rfl ll)
     (af
      (az (i:=1) sc_103.nd rfl ll (aj cE (yqv 1 vl) ac))))
   (af
    (ay (yqv 1 vl)))))),?_⟩
 rw [show start _ [V.int w]=[some (.int w),none,none] from rfl];rwa [];refine zC Jn Jn (dg (fun i σ H'=>H'=H/\∃b,σ=[some (.int w),some (.int (2 ^ i)),b]) ⟨rfl,none,rfl⟩ ?_ ?_)
 ·rintro i σ H2 hi ⟨rfl,b,rfl⟩;rwa [];exact ⟨.inr ⟨Jm,Jm⟩,_,by rw [Int.pow_succ]⟩
 ·rintro σ H2 ⟨rfl,b,rfl⟩;rwa [];exact q
variable {H:Hp} {Q:VK} {d:Nat} {o:Opd} {p:Addr}
def CmpV(K:W.Frag)(H:Hp)(d:Nat)(v v':V):Prop:=(∃o:Opd,v=o.v/\v'=o.v)\/∃a b xs ys l f g,v=.ref a/\v'=.ref b/\H a=some (.lst xs)/\H b=some (.lst ys)/\StmsV K H xs l f/\StmsV K H ys l g/\aO l<d/\aE l<=1000
def xR(K:W.Frag)(H:Hp)(d:Nat)(x y:V):Prop:=∃q q' vs vs',x=.ref q/\y=.ref q'/\SqT K H q vs/\SqT K H q' vs'/\vs.length=vs'.length/\vs.length<=4/\2<=vs.length/\(∃(s:Str)(o:Opd),vs.take 2=[.str s,o.v]/\vs'.take 2=[.str s,o.v])/\∀j v v',2<=j->vs[j]?=some v->vs'[j]?=some v'->CmpV K H d v v'
theorem yu{K:W.Frag}{st:Stm}{x y:V}{f g:List Addr}(h1:StmV K H x st f)(h2:StmV K H y st g)(hd:st.deep<=d)(hm:st.many<=1000):xR K H d x y:=by
 cases h1 with
 | @deed q dd hf e1=>
  cases h2 with
  | @deed q' _ _ e2=>
   refine zL q q' _ _ (zc rfl rfl e1 e2 rfl ?_ ?_ ?_ fun j v v' hj hv hv'=>?_)
   ·cases dd<;>simp [Deed.vs]
   ·cases dd<;>simp [Deed.vs]
   ·cases dd with
    |tell o=>exact zE _ o rfl rfl
    |copy n o=>exact zE _ (.box n) rfl rfl
    |op k n o o2=>exact zE _ (.box n) rfl rfl
   ·rw [hv] at hv'
    cases hv'
    cases dd with
    |tell o=>rw [jj (by simp [Deed.vs];omega)] at hv;cases hv
    |copy n o=>
     match j,hj,hv with
     |2,_,hv=>cases hv;exact .inl (zA o rfl rfl)
     |j+3,_,hv=>rw [jj (by simp [Deed.vs])] at hv;cases hv
    |op k n o o2=>
     match j,hj,hv with
     |2,_,hv=>cases hv;exact .inl (zA o rfl rfl)
     |3,_,hv=>cases hv;exact .inl (zA o2 rfl rfl)
     |j+4,_,hv=>rw [jj (by simp [Deed.vs])] at hv;cases hv
 | @ifs q a b n xs ys ones others f1 g1 e1 ea eb sa sb=>
  cases h2 with
  | @ifs q' a' b' _ xs' ys' _ _ f2 g2 e2 ea' eb' sa' sb'=>
   rw [Stm.deep] at hd;rw [Stm.many] at hm;refine zL q q' _ _ (zc rfl rfl e1 e2 rfl Jo Jo (zE _ (.box n) rfl rfl) fun j v v' hj hv hv'=>?_)
   match j,hj,hv,hv' with
   |2,_,hv,hv'=>cases hv;cases hv';exact .inr (zl a a' _ _ _ _ _ rfl rfl ea ea' sa sa' Jn Jn)
   |3,_,hv,hv'=>cases hv;cases hv';exact .inr (zl b b' _ _ _ _ _ rfl rfl eb eb' sb sb' Jn Jn)
   |j+4,_,hv,_=>rw [jj Jo] at hv;cases hv
 | @whl q a n xs rows f1 e1 ea sa=>
  cases h2 with
  | @whl q' a' _ xs' _ f2 e2 ea' sa'=>
   rw [Stm.deep] at hd;rw [Stm.many] at hm;refine zL q q' _ _ (zc rfl rfl e1 e2 rfl Jo Jo (zE _ (.box n) rfl rfl) fun j v v' hj hv hv'=>?_)
   match j,hj,hv,hv' with
   |2,_,hv,hv'=>cases hv;cases hv';exact .inr (zl a a' _ _ _ _ _ rfl rfl ea ea' sa sa' Jn Jn)
   |j+3,_,hv,_=>rw [jj Jo] at hv;cases hv
def mS(K:W.Frag)(d:Nat)(a b:Addr)(H:Hp)(Q:VK):Prop:=∃(l:List Stm)(xs ys:List V)(f g:List Addr),H a=some (.lst xs)/\H b=some (.lst ys)/\StmsV K H xs l f/\StmsV K H ys l g/\aO l<d/\aE l<=1000/\∀H',Same H H'->Q (.bl true) H'
def i0(K:W.Frag)(d:Nat):Sp:=fun vs H Q _=>∃a b:Addr,vs=[.ref a,.ref b]/\mS K d a b H Q
theorem iT{a b:Addr}{E:XK}:i0 K d [.ref a,.ref b] H Q E=mS K d a b H Q:=propext ⟨by rintro ⟨_,_,e,q⟩;cases e;exact q,fun q=>zE _ _ rfl q⟩
theorem nD{xs:List V}(hp:SqT K H p xs)(h:Q (.bl true) H):oO K [.ref p,.ty "tuple"] H Q:=zK _ _ _ rfl Jk (.tup hp) h
theorem cZ{xs:List V}(hp:SqL K H p xs)(h:Q (.bl true) H):oO K [.ref p,.ty "list"] H Q:=zK _ _ _ rfl Jk (.lst hp) h
theorem nC(h:Q (.bl false) H):oO K [o.v,.ty "list"] H Q:=by
 cases o with
 |box n=>exact zK _ _ _ rfl Jk .str h
 |word i=>exact zK _ _ _ rfl Jk .int h
theorem nB(h:Q (.bl false) H):oO K [o.v,.ty "bool"] H Q:=by
 cases o with
 |box n=>exact zK _ _ _ rfl Jk .str h
 |word i=>exact zK _ _ _ rfl Jk .int h
theorem v9{p':Addr}{s:Str}(h:SqT K H p [.str s,o.v])(h':SqT K H p' [.str s,o.v]):Rq K H 0 (.ref p) (.ref p') true:=by
 have z:=Rq.tups (K:=K) (H:=H) (n:=0) (fun _=>true) h h' fun j x y hx hy=>by
  rw [hx] at hy
  cases hy
  match j,hx with
  |0,hx=>cases hx;exact FW.n9
  |1,hx=>cases hx;exact FW.oy o
  |j+2,hx=>simp at hx
 exact z
theorem xr{q:Addr}{vs:List V}{sh:Str}{oh:Opd}(e:SqT K H q vs)(h2:2<=vs.length)(h4:vs.length<=4)(ht:vs.take 2=[.str sh,oh.v])(h:∀p H',Same H H'->SqT K H' p [.str sh,oh.v]->Q (.ref p) H'):wK K (.ref q) none (some 2) H Q:=by
 have hn:vs.length=2\/vs.length=3\/vs.length=4:=by omega
 by_cases hl:vs.length=2
 ·refine .inr (zP q vs rfl e (by rw [hl];decide) (by rw [hl];decide) (h q H (Same.refl _) ?_));rw [<- ht,<- hl,f6];exact e
 ·refine .inl (zD q vs rfl e ?_ fun p hp=>?_)
  ·rcases hn with z | z | z
   ·exact absurd z hl
   ·rw [z];decide
   ·rw [z];decide
  ·rw [kr Jm,show (2:Int).toNat=2 from rfl,ht];exact h p _ (Same.upd hp) (SqT.of upd_same)
theorem CmpV.same{H':Hp}{v v':V}(h:CmpV K H d v v')(s:Same H H'):CmpV K H' d v v':=by
 rcases h with h | ⟨a,b,xs,ys,l,f,g,h1,h2,h3,h4,h5,h6,h7,h8⟩
 ·exact .inl h
 ·exact .inr (zl a b xs ys l f g h1 h2 (s _ _ h3) (s _ _ h4) (h5.same s) (h6.same s) h7 h8)
theorem nK(T:Txt K mg t)(d:Nat)(G_136:FnOk P w K mg base CX0 (d+1) t.f_136 t.e_136 ["_law_found","_law_due"] (i0 K d)):FnOk P w K mg base CX0 (d+2) t.f_136 t.e_136 ["_law_found","_law_due"] (i0 K (d+1)):=by
 refine T.d_136.F.ok sc_136 ∅ ?_;rintro cdv A outer s H vs Q E hr ⟨a,b,rfl,l,xs,ys,f,g,ha,hb,hx,hy,hd,hm,q⟩;have hu:=ny hr;have lx:=hx.length;have ly:=hy.length;have lm:=d4 l;refine ⟨_,
   (XSs.h
   (b9
    (aF (aZ (bw (bg (bh (av bQ gl T.z_isinstance boot_isinstance (aa (yqv 0 vl) (aa (bV (v:=.ty "list") gl T.z_list boot_list rfl) ab))))) (bA (ak dB (av au gl T.z_len PySem.boot_len (aa (yqv 0 vl) ab)) (av au gl T.z_len PySem.boot_len (aa (yqv 1 vl) ab)) (aB _)))))
     (af
      (ay bT))
     aA)
   (ae
    (bZ PassesOwn.never rfl (cQ gl T.z_range (aa (av au gl T.z_len PySem.boot_len (aa (yqv 1 vl) ab)) ab)) (aK (i:=2) sc_136.nd rfl ll)
     (b9
      (aF (aZ (bw (bg (bh (av bQ gl T.z_isinstance boot_isinstance (aa (am aD (yqv 0 vl) (yqv 2 vl)) (aa (bV (v:=.ty "tuple") gl T.z_tuple boot_tuple rfl) ab))))) (bw (ak dB (av au gl T.z_len PySem.boot_len (aa (am aD (yqv 0 vl) (yqv 2 vl)) ab)) (av au gl T.z_len PySem.boot_len (aa (am aD (yqv 1 vl) (yqv 2 vl)) ab)) (aB _)) (bA (ak (dH (n:=0) (fz Jm hr)) (bO l8 (am aD (yqv 0 vl) (yqv 2 vl)) cL (bK ac)) (bO l8 (am aD (yqv 1 vl) (yqv 2 vl)) cL (bK ac)) (aB _))))))
       (af
        (ay bT))
       aA)
     (af
      (bZ PassesOwn.never rfl (jY gl T.z_range (aa ac (aa (av au gl T.z_len PySem.boot_len (aa (am aD (yqv 1 vl) (yqv 2 vl)) ab)) ab))) (aK (i:=3) sc_136.nd rfl ll)
       (af
        (aF (bh (av bQ gl T.z_isinstance boot_isinstance (aa (am aJ (am aD (yqv 1 vl) (yqv 2 vl)) (yqv 3 vl)) (aa (bV (v:=.ty "list") gl T.z_list boot_list rfl) ab))))
         (af
          (aF (bg (bh (ap T.d_136 G_136 hr.m (aa (am aJ (am aD (yqv 0 vl) (yqv 2 vl)) (yqv 3 vl)) (aa (am aJ (am aD (yqv 1 vl) (yqv 2 vl)) (yqv 3 vl)) ab)) gl)))
           (af
            (ay bT))
           aA))
         (af
          (aF (aZ (bw (bh (av bQ gl T.z_isinstance boot_isinstance (aa (am aJ (am aD (yqv 0 vl) (yqv 2 vl)) (yqv 3 vl)) (aa (bV (v:=.ty "bool") gl T.z_bool boot_bool rfl) ab)))) (bA (ak dB (am aJ (am aD (yqv 0 vl) (yqv 2 vl)) (yqv 3 vl)) (am aJ (am aD (yqv 1 vl) (yqv 2 vl)) (yqv 3 vl)) (aB _)))))
           (af
            (ay bT))
           aA))))))))
   (af
    (ay bT))))),?_⟩
 rw [show start _ [V.ref a,V.ref b]=[some (.ref a),some (.ref b),none,none] from rfl];simp_arith! [iT];refine zA (fun σ H'=>H'=H/\σ=[some (.ref a),some (.ref b),none,none]) ?_ ?_
 ·refine cZ (SqL.of ha) (zA _ rfl ?_);rw [if_neg Jm];refine zA _ (.inl (SqL.of ha)) (zA _ (.inl (SqL.of hb)) ?_);rw [if_neg (by simp;omega)];exact ⟨rfl,rfl⟩
 rintro σ H1 ⟨rfl,rfl⟩;refine aH ?_;simp_arith! [];refine zG _ (.inl (SqL.of hb)) Jn Jn ?_;rw [fV];refine dg (n:=ys.length) (fun i σ H'=>Same H1 H'/\∃o2 o3,σ=[some (.ref a),some (.ref b),o2,o3]) ⟨Same.refl _,zN _ _ rfl⟩ ?_ ?_
 ·rintro i σ H2 hi ⟨s2,o2,o3,rfl⟩;obtain ⟨x,hxi⟩:∃x,xs[i]?=some x:=⟨_,dc Jn⟩
  obtain ⟨y,hyi⟩:∃y,ys[i]?=some y:=⟨_,dc hi⟩
  obtain ⟨st,f',hst,hv,_⟩:=hx.get hxi;obtain ⟨st2,g',hst2,hw,_⟩:=hy.get hyi;rw [hst] at hst2
  cases hst2
  have hdm:=ck (dN hst);have hR:=yu (d:=d) (hv.same s2) (hw.same s2) Jn (eO (d5 (dN hst)) hm);obtain ⟨q1,q2,vs,vs',rfl,rfl,e1,e2,hl,l4,l2,⟨sh,oh,ht1,ht2⟩,hc⟩:=hR;simp_arith! [iT];refine zA (fun σ H'=>Same H2 H'/\σ=[some (.ref a),some (.ref b),some (.int i),o3]) ?_ ?_
  ·refine zB _ _ (SqL.of (s2 _ _ ha)) (aP hxi) (nD e1 (zA _ rfl ?_));rw [if_neg Jm];refine zB _ _ (SqL.of (s2 _ _ ha)) (aP hxi) (zB q1 vs rfl (.inr e1) (zB _ _ (SqL.of (s2 _ _ hb)) (aP hyi) (zB q2 vs' rfl (.inr e2) ?_)));rw [if_neg (by simp [hl])];refine zB _ _ (SqL.of (s2 _ _ ha)) (aP hxi) (xr e1 l2 l4 ht1 fun p1 H4 t1 hp1=>?_);refine zB _ _ (SqL.of (t1 _ _ (s2 _ _ hb))) (aP hyi) (xr (t1.seqT e2) Jn Jn ht2 fun p2 H5 t2 hp2=>?_);refine zA true (v9 (t2.seqT hp1) hp2) (zA _ rfl ?_);rw [if_neg Jm];exact ⟨t1.trans t2,rfl⟩
  rintro σ H3 ⟨s3,rfl⟩;refine aH ?_;simp_arith! [];have s13:=s2.trans s3;refine zB _ _ (SqL.of (s13 _ _ hb)) (aP hyi) (zD q2 vs' rfl (.inr (s3.seqT e2)) (zH Jm Jm Jn Jn) ?_);refine iB (lo:=2) (fun j σ H'=>Same H3 H'/\∃o3,σ=[some (.ref a),some (.ref b),some (.int i),o3]) ⟨Same.refl _,_,rfl⟩ ?_ ?_
  ·rintro j σ H4 hj ⟨s4,o3',rfl⟩;have hj':2+j<vs'.length:=by omega
   obtain ⟨v,hv⟩:∃v,vs[2+j]?=some v:=⟨_,dc Jn⟩
   obtain ⟨v',hv'⟩:∃v',vs'[2+j]?=some v':=⟨_,dc hj'⟩
   have ej:(2:Int)+(j:Int)=((2+j:Nat):Int):=by omega
   have s14:=s13.trans s4;have s24:=s3.trans s4;have hcv:=(hc (2+j) v v' Jn hv hv').same s24;simp_arith! [];refine zB _ _ (SqL.of (s14 _ _ hb)) (aP hyi) ?_;simp_arith! [];refine zB _ _ (s24.seqT e2) (by rw [ej];exact aP hv') ?_;rcases hcv with ⟨o,rfl,rfl⟩ | ⟨a1,b1,xs1,ys1,l1,f1,g1,rfl,rfl,k1,k2,k3,k4,k5,k6⟩
   ·refine nC (zA _ rfl ?_);rw [if_neg Jm];refine zB _ _ (SqL.of (s14 _ _ ha)) (aP hxi) ?_;simp_arith! [];refine zB _ _ (s24.seqT e1) (by rw [ej];exact aP hv) ?_;refine nB (zA _ rfl ?_);rw [if_neg Jm];refine zB _ _ (SqL.of (s14 _ _ ha)) (aP hxi) ?_;simp_arith! [];refine zB _ _ (s24.seqT e1) (by rw [ej];exact aP hv) ?_;refine zB _ _ (SqL.of (s14 _ _ hb)) (aP hyi) ?_;simp_arith! [];refine zB _ _ (s24.seqT e2) (by rw [ej];exact aP hv') ?_;refine ⟨by cases o<;>rfl,zA _ rfl ?_⟩;rw [decide_eq_true rfl,if_neg Jm];exact ⟨s4,_,rfl⟩
   ·refine cZ (SqL.of k2) (zA _ rfl ?_);rw [if_pos rfl];refine zB _ _ (SqL.of (s14 _ _ ha)) (aP hxi) ?_;simp_arith! [];refine zB _ _ (s24.seqT e1) (by rw [ej];exact aP hv) ?_;refine zB _ _ (SqL.of (s14 _ _ hb)) (aP hyi) ?_;simp_arith! [];refine zB _ _ (s24.seqT e2) (by rw [ej];exact aP hv') ?_;rw [iT];refine zO l1 xs1 ys1 f1 g1 k1 k2 k3 k4 k5 k6 fun H5 s5=>zA _ rfl ?_;rw [if_neg Jm];exact ⟨s4.trans s5,_,rfl⟩
  ·rintro σ H4 ⟨s4,o3',rfl⟩;exact ⟨s13.trans s4,zN _ _ rfl⟩
 ·rintro σ H2 ⟨s2,o2,o3,rfl⟩;refine aH ?_;simp_arith! [];exact q H2 s2
theorem jE(T:Txt K mg t):∀d,FnOk P w K mg base CX0 (d+1) t.f_136 t.e_136 ["_law_found","_law_due"] (i0 K d)
 |0=>⟨fun vs H Q E h=>by obtain ⟨_,_,_,_,_,_,_,_,_,_,_,_,h,_⟩:=h;omega,fun _ _ _ _ _ _ _ _ _ _ _ _ _ h=>by obtain ⟨_,_,_,_,_,_,_,_,_,_,_,_,h,_⟩:=h;omega⟩
 |d+1=>nK T d (jE T d)
def j1(K:W.Frag):Sp:=fun vs H Q _=>∃(q:Addr)(d:Deed)(ns:List Str)(w:Int),vs=[.ref q]/\SqT K H q d.vs/\NW ns w/\Deed.good ns w d/\∀H',Same H H'->Q (.str (jn (dT d))) H'
theorem qI{K:W.Frag}{q:Addr}{H:Hp}{Q:VK}{E:XK}:j1 K [.ref q] H Q E=∃(d:Deed)(ns:List Str)(w:Int),SqT K H q d.vs/\NW ns w/\Deed.good ns w d/\∀H',Same H H'->Q (.str (jn (dT d))) H':=propext ⟨by rintro ⟨_,d,ns,w,e,q⟩;cases e;exact zW d ns w q,fun ⟨d,ns,w,q⟩=>zV _ d ns w rfl q⟩
def txv:V->V
 | .int i=>.str (toString i)
 |v=>v
theorem nc{ns:List Str}{w:Int}{d:Deed}(hN:NW ns w)(h:Deed.good ns w d):∀x∈d.vs,(∃s,x=.str s)\/∃i,x=.int i/\0<=i/\i<256:=by
 have ho:∀o,Opd.good ns w o->(∃s,o.v=.str s)\/∃i,o.v=.int i/\0<=i/\i<256:=fun o h=>by
  cases o with
  |box n=>exact .inl ⟨_,rfl⟩
  |word i=>
   have p:(2:Int) ^ w.toNat<=2 ^ 8:=by
    have:=hN.2.2
    exact_mod_cast pW Jm Jn
   exact .inr (zF i rfl h.1 (by have:=h.2;omega))
 intro x hx
 cases d with
 |tell o=>
  rcases zq1.mp hx with rfl | hx
  ·exact .inl ⟨_,rfl⟩
  rw [zq9.mp hx];exact ho o h
 |copy n o=>
  rcases zq1.mp hx with rfl | hx
  ·exact .inl ⟨_,rfl⟩
  rcases zq1.mp hx with rfl | hx
  ·exact .inl ⟨_,rfl⟩
  rw [zq9.mp hx];exact ho o h.2
 |op k n o p=>
  rcases zq1.mp hx with rfl | hx
  ·exact .inl ⟨_,rfl⟩
  rcases zq1.mp hx with rfl | hx
  ·exact .inl ⟨_,rfl⟩
  rcases zq1.mp hx with rfl | hx
  ·exact ho o h.2.2.1
  rw [zq9.mp hx];exact ho p h.2.2.2
theorem dk{i:Int}(h0:0<=i)(h1:i<256):i.natAbs.log2<1920:=by
 by_cases z:i.natAbs=0
 ·rw [z];decide
 ·rw [Nat.log2_lt z]
  calc i.natAbs<2 ^ 8:=by omega
   _<=2 ^ 1920:=pW Jm Jm
theorem fh(o:Opd):txv o.v=.str (otx o):=by cases o<;>rfl
theorem gS(ts:List Str):PySem.Txt.join " " ts=jn ts:=StrLaws.glued_eq_join _ ts
theorem m4{ts:List Str}(h:okL ts):(ts.map (·.length)).sum+ts.length * (" ":Str).length<=16777216:=by
 have h1:∀l:List Str,(∀t∈l,t.length<=20)->(l.map (·.length)).sum<=20 * l.length:=by
  intro l
  induction l with
  |nil=>intro _;simp
  |cons a l ih=>intro h;have:=ih fun t ht=>h t (zq2 _ ht);have:=h a (zq4 ..);rw [cG,List.sum_cons,cj];omega
 have:=h1 ts fun t ht=>(h.2.2 t ht).2.2;have:=h.2.1;have e:(" ":Str).length=1:=by decide +kernel
 rw [e];omega
theorem oa(T:Txt K mg t):FnOk P w K mg base CX0 1 t.f_107 t.e_107 ["deed"] (j1 K):=by
 refine T.d_107.F.ok sc_107 ∅ ?_;rintro cdv A outer s H vs Q E hr ⟨q0,d,ns,w,rfl,hq,hN,hg,q⟩;refine ⟨_,
   (XSs.h
   (ae
    (eW (i:=1) sc_107.nd rfl ll rfl Jl (tns:=["part"]) (cns:=[]) (ci:=[]) rfl (CompSc.of Jl) (qY (yqv 0 vl)) (fun _=>(aK (i:=1) (show List.Nodup [(".0":Str),("part":Str)] by decide +kernel) rfl ll (Or.inr Jl))) (fun _=>cg) (fun _=>(aN el gl T.z_str boot_str (aa (yqv 1 vl) ab))))
   (ae
    (aF (ak bf (am aJ (yqv 0 vl) ac) aq (aB _))
     (af
      (ay (bv PySem.F.plainAttrs_str PySem.F.slot_str_join PySem.F.type_str_join gW aq (aa (yqv 1 vl) ab))))
     aA)
   (ae
    (aF (ak bf (am aJ (yqv 0 vl) ac) aq (aB _))
     (af
      (ay (bv PySem.F.plainAttrs_str PySem.F.slot_str_join PySem.F.type_str_join gW aq (aa (aI (aa (am aD (yqv 1 vl) ac) (aa aq (aa (am aD (yqv 1 vl) ac) ab)))) ab))))
     aA)
   (af
    (ay (bv PySem.F.plainAttrs_str PySem.F.slot_str_join PySem.F.type_str_join gW aq (aa (aI (aa (am aD (yqv 1 vl) ac) (aa aq (aa (am aD (yqv 1 vl) ac) (aa (am aD (yqv 1 vl) ac) (aa (am aD (yqv 1 vl) ac) ab)))))) ab)))))))),?_⟩
 rw [show start _ [V.ref q0]=[some (.ref q0),none] from rfl];rwa [];have lv:d.vs.length<=4:=by cases d<;>simp [Deed.vs]
 refine ⟨⟨_,hq⟩,fun acc hacc bk=>?_⟩;refine qe txv (by rw [sizeLine_eq];omega) hq hacc (fun x hx H' Q' sm hh=>?_) ?_
 ·rwa [];rcases nc hN hg x hx with ⟨s,rfl⟩ | ⟨i,rfl,h0,h1⟩
  ·exact .inr (zA _ rfl hh)
  ·exact .inl (zF _ rfl (dk h0 h1) hh)
 have s1:=Same.upd (o:=.lst (d.vs.map txv)) hacc;have hacc1:upd H acc (.lst (d.vs.map txv)) acc=some (.lst (d.vs.map txv)):=upd_same;generalize upd H acc (.lst (d.vs.map txv))=H1 at s1 hacc1 ⊢;have hok:okL (dT d):=zC (by cases d<;>simp [dT]) (by cases d<;>simp [dT]) (rp hN.1 hN.2.2 hg)
 have hR:=m4 hok
 cases d with
 |tell o=>
  refine zD _ _ (s1.seqT hq) rfl rfl (zA _ rfl ?_);rw [if_pos Jk];refine zF (dT (.tell o)) (SqL.of (hacc1.trans ?_)) hR (by rw [gS];exact q H1 s1);show some (HO.lst [V.str "tell",txv o.v])=_;rw [fh];rfl
 |copy n o=>
  refine zD _ _ (s1.seqT hq) rfl rfl (zA _ rfl ?_);rw [if_neg Jk];refine zD _ _ (s1.seqT hq) rfl rfl (zA _ rfl ?_);rw [if_pos Jk];refine zB _ _ (SqL.of hacc1) rfl (zB _ _ (SqL.of hacc1) rfl fun p hp=>zF (dT (.copy n o)) (SqL.of (upd_same.trans ?_)) hR (by rw [gS];exact q _ (s1.trans (Same.upd hp))));show some (HO.lst [V.str n,V.str "=",txv o.v])=_;rw [fh];rfl
 |op k n o p=>refine zD _ _ (s1.seqT hq) rfl rfl (zA _ rfl ?_);rw [if_neg (by simpa using fun z=>dZ (k:="tell") hg.1 Jk z)];refine zD _ _ (s1.seqT hq) rfl rfl (zA _ rfl ?_);rw [if_neg (by simpa using fun z=>dZ (k:="copy") hg.1 Jk z)];refine zB _ _ (SqL.of hacc1) rfl (zB _ _ (SqL.of hacc1) rfl (zB _ _ (SqL.of hacc1) rfl (zB _ _ (SqL.of hacc1) rfl fun p1 hp=>zF (dT (.op k n o p)) (SqL.of (upd_same.trans ?_)) hR (by rw [gS];exact q _ (s1.trans (Same.upd hp))))));show some (HO.lst [V.str n,V.str "=",txv o.v,V.str k,txv p.v])=_;rw [fh,fh];rfl
variable {H:Hp} {Q:VK} {ss:List Stm}
def mR(K:W.Frag)(d:Nat)(a:Addr)(H:Hp)(Q:VK):Prop:=∃(xs:List V)(ss:List Stm)(f:List Addr)(ns:List Str)(w:Int),H a=some (.lst xs)/\StmsV K H xs ss f/\aO ss<d/\aE ss<=1000/\NW ns w/\bq ns w ss/\
 ∀p H',Same H H'->H p=none->H' p=some (.lst ((ln false ss).map V.str))->Q (.ref p) H'
def hZ(K:W.Frag)(d:Nat):Sp:=fun vs H Q _=>∃a:Addr,vs=[.ref a]/\mR K d a H Q
theorem c5{K:W.Frag}{d:Nat}{a:Addr}{E:XK}:hZ K d [.ref a] H Q E=mR K d a H Q:=propext ⟨by rintro ⟨_,e,q⟩;cases e;exact q,fun q=>zA _ rfl q⟩
def mV(K:W.Frag)(d:Nat)(x:V)(H:Hp)(Q:VK):Prop:=∃(s:Stm)(f:List Addr)(ns:List Str)(w:Int),StmV K H x s f/\s.deep<d/\s.many<=1000/\NW ns w/\s.good ns w/\
 ∀p H',Same H H'->H p=none->H' p=some (.lst (((sT false s).map jn).map V.str))->Q (.ref p) H'
def fL(K:W.Frag)(d:Nat):Sp:=fun vs H Q _=>∃x:V,vs=[x]/\mV K d x H Q
theorem rM{K:W.Frag}{d:Nat}{x:V}{E:XK}:fL K d [x] H Q E=mV K d x H Q:=propext ⟨by rintro ⟨_,e,q⟩;cases e;exact q,fun q=>zA _ rfl q⟩
theorem dh{ns:List Str}{w:Int}{s:Stm}:∀{ss:List Stm},bq ns w ss->s∈ss->s.good ns w
 | [],_,h=>by cases h
 |t::ss,g,h=>by
  rw [bq] at g;rcases zq1.mp h with rfl | h
  ·exact g.1
  ·exact dh g.2 h
theorem dG{i:Nat}:aE (ss.take i)<=aE ss:=by
 have:aE (ss.take i++ss.drop i)=aE ss:=by rw [vU]
 rw [bR] at this;omega
theorem cq{al:Bool}:(ln al ss).length<=3 * aE ss:=by unfold ln;rw [zq0];exact d0 ss
theorem kH{al:Bool}{s:Stm}:ln al (ss++[s])=ln al ss++(sT al s).map jn:=by unfold ln;rw [di,zq6,lT,lT,fU]
theorem eX{a b:Addr}{xs zs:List V}(ha:H a=some (.lst xs))(hb:H b=some (.lst zs))(hl:xs.length+zs.length<=100000)(h:∀p,H p=none->Q (.ref p) (upd H p (.lst (xs++zs)))):ur (.ref a) (.ref b) H Q:=zL _ _ _ _ (zT rfl rfl ha hb (by rw [sizeLine_eq];omega) h)
theorem iF(T:Txt K mg t)(d:Nat)(G_106:FnOk P w K mg base CX0 (2 * d+1) t.f_106 t.e_106 ["row"] (fL K d)):FnOk P w K mg base CX0 (2 * d+2) t.f_105 t.e_105 ["rows"] (hZ K d):=by
 refine T.d_105.F.ok sc_105 ∅ ?_;rintro cdv A outer s H vs Q E hr ⟨a,rfl,xs,ss,f,ns,w,ha,hx,hd,hm,hN,hg,q⟩;refine ⟨_,
   (XSs.h
   (ae
    (az (i:=1) sc_105.nd rfl ll (aI ab))
   (ae
    (bZ PassesOwn.never rfl (bJ (yqv 0 vl)) (aK (i:=2) sc_105.nd rfl ll)
     (af
      (aL (bv PySem.F.plainAttrs_list PySem.F.slot_list_extend PySem.F.type_list_extend eB (yqv 1 vl) (aa (ap T.d_106 G_106 hr.m (aa (yqv 2 vl) ab) gl) ab)))))
   (af
    (ay (yqv 1 vl)))))),?_⟩
 rw [show start _ [V.ref a]=[some (.ref a),none,none] from rfl];rwa [rM];have lx:=hx.length;have lm:=d4 ss;intro l hl;refine ⟨⟨_,SqL.of (Same.upd hl _ _ ha)⟩,fb (xs:=xs) (fun i σ H'=>Same H H'/\H' l=some (.lst ((ln false (ss.take i)).map V.str))/\∃o2,σ=[some (.ref a),some (.ref l),o2]) (zC (Same.upd hl) upd_same ⟨_,rfl⟩) ?_ ?_ ?_⟩
 ·rintro i σ H' _ ⟨sm,_⟩;exact SqL.of (sm _ _ ha)
 ·rintro i x σ H' hxi ⟨sm,hl2,o2,rfl⟩;rwa [rM];obtain ⟨s,f',hs,hsv,_⟩:=hx.get hxi;have hi:i<ss.length:=(zq19.mp hs).1;have hse:ss[i]=s:=(zq19.mp hs).2;have hds:=ck (dN hs);have hms:=d5 (dN hs);refine ⟨.inl ⟨rfl,_,SqL.of hl2⟩,?_⟩;refine zL s f' ns w (zT (hsv.same sm) Jn Jn hN (dh hg (dN hs)) fun p H2 s2 hp he=>?_);have hl3:=s2 _ _ hl2;have l1:=cq (al:=false) (ss:=ss.take i);have l2:=dG (ss:=ss) (i:=i);have l3:=jQ (al:=false) s;refine zL l p _ _ (zg rfl rfl hl3 he (by rw [sizeLine_eq];simp only [List.length_map];omega) ((sm.trans s2).updM hl) ?_ ⟨_,rfl⟩);rw [upd_same,fW hi,hse,kH,zq6]
 ·rintro σ H' ⟨sm,hl2,o2,rfl⟩;rw [lx,f6] at hl2;rwa [];exact q l H' sm hl hl2
theorem oZ(T:Txt K mg t)(d:Nat)(G_105:FnOk P w K mg base CX0 (2 * d+2) t.f_105 t.e_105 ["rows"] (hZ K d)):FnOk P w K mg base CX0 (2 * (d+1)+1) t.f_106 t.e_106 ["row"] (fL K (d+1)):=by
 have G_107:=@oa P w K mg base t T;refine T.d_106.F.ok sc_106 ∅ ?_;rintro cdv A outer s H vs Q E hr ⟨x,rfl,st,f,ns,w,hx,hd,hm,hN,hg,q⟩;refine ⟨_,
   (XSs.h
   (ae
    (aF (ak bf (am aJ (yqv 0 vl) ac) aq (aB _))
     (b9
      (az (i:=1) sc_106.nd rfl ll (gF (eL (am aJ (yqv 0 vl) ac) (fun _=>rfl)) (aj br (aI (aa aq ab)) (ap T.d_105 G_105 hr.m (aa (am aJ (yqv 0 vl) ac) ab) gl)) (aI ab)))
     (af
      (ay (aj br (aj br (aj br (aI (aa (aj aM aq (am aJ (yqv 0 vl) ac)) ab)) (ap T.d_105 G_105 hr.m (aa (am aJ (yqv 0 vl) ac) ab) gl)) (yqv 1 vl)) (aI (aa aq ab))))))
     aA)
   (ae
    (aF (ak bf (am aJ (yqv 0 vl) ac) aq (aB _))
     (af
      (ay (aj br (aj br (aI (aa (aj aM aq (am aJ (yqv 0 vl) ac)) ab)) (ap T.d_105 G_105 hr.m (aa (am aJ (yqv 0 vl) ac) ab) gl)) (aI (aa aq ab)))))
     aA)
   (af
    (ay (aI (aa (ap T.d_107 G_107 hr.m (aa (yqv 0 vl) ab) gl) ab))))))),?_⟩
 rw [show start _ [x]=[some x,none] from rfl]
 cases hx with
 | @deed q0 dd hf hq=>
  rwa [c5,qI];refine kC hf hq Jk Jk Jk (zA _ rfl ?_);rw [if_neg zq3];refine kC hf hq Jk Jk Jk (zA _ rfl ?_);rw [if_neg zq3];rw [Stm.good] at hg;refine zK dd ns w hq hN hg fun H1 s1 p hp=>?_;exact q p _ (s1.trans (Same.upd hp)) (s1.free hp) (by rw [upd_same,sT];rfl)
 | @ifs q0 a b n xs ys ones others f g hq ha hb h1 h2=>
  simp only [Stm.deep,Stm.many,Stm.good] at hd hm hg;simp_arith! [c5];refine zB _ _ hq rfl ?_;simp_arith! [c5];refine aS (fun _=>?_) (fun z=>absurd trivial z);refine ⟨fun σ H'=>∃po,Same H H'/\H' po=some (.lst (((if !others.isEmpty then [("else":Str)]::lT false others else []).map jn).map V.str))/\σ=[some (.ref q0),some (.ref po)],?_,?_⟩
  ·refine zB _ _ hq rfl ?_;refine zA (!ys.isEmpty) (.inl (zA ys (SqL.of hb) rfl)) ?_;have l2:=h2.length
   cases others with
   |nil=>
    have e:ys=[]:=zq81.mp l2;rw [e];exact fun p hp=>zF p (Same.upd hp) upd_same rfl
   |cons s0 r=>
    have e:(!ys.isEmpty)=true:=by
     cases ys with
     |nil=>simp at l2
     |cons=>rfl
    rw [if_pos e];intro p1 hp1;have s1:=Same.upd (o:=.lst [V.str (Str.ofString "else")]) hp1;refine zB _ _ (s1.seqT hq) rfl ?_;rw [c5];refine zO ys (s0::r) g ns w (s1 _ _ hb) (h2.same s1) Jn Jn hN hg.2.2 fun p2 H2 s2 hp2 he=>?_;have lc:=cq (al:=false) (ss:=s0::r);refine eX (s2 _ _ upd_same) he (by simp only [List.length_map,List.length_cons,List.length_nil];omega) fun p3 hp3=>zF p3 ((s1.trans s2).trans (Same.upd hp3)) ?_ rfl
    rw [upd_same];rfl
  rintro σ H1 ⟨po,s1,hpo,rfl⟩;refine aH ?_;simp_arith! [c5];refine zB _ _ (s1.seqT hq) rfl (zD _ _ rfl rfl ?_ fun p1 hp1=>?_)
  ·have:=(aV (hN.1 n hg.1)).2.2;rw [sizeLine_eq,show (Str.ofString "if ").length=3 by decide +kernel];omega
  have s2:=Same.upd (o:=.lst [V.str (Str.ofString "if "++n)]) hp1;have s12:=s1.trans s2;refine zB _ _ (s12.seqT hq) rfl ?_;rw [c5];refine zO xs ones f ns w (s12 _ _ ha) (h1.same s12) Jn Jn hN hg.2.1 fun p2 H2 s3 hp2 he=>?_;have lc:=cq (al:=false) (ss:=ones);have ld:(if !others.isEmpty then [("else":Str)]::lT false others else []).length<=3 * aE others+1:=by
   have:=d0 (al:=false) others
   split
   ·rw [cj];omega
   ·exact ek _
  refine eX (s3 _ _ upd_same) he (by simp only [List.length_map,List.length_cons,List.length_nil];omega) fun p3 hp3=>?_;have s4:=Same.upd (o:=.lst ([V.str (Str.ofString "if "++n)]++(ln false ones).map V.str)) hp3;refine eX upd_same (s4 _ _ (s3 _ _ (s2 _ _ hpo))) (by simp only [List.length_map,List.length_cons,List.length_nil,List.length_append];omega) fun p4 hp4 p5 hp5=>?_;have s5:=Same.upd (o:=.lst (([V.str (Str.ofString "if "++n)]++(ln false ones).map V.str)++((if !others.isEmpty then [("else":Str)]::lT false others else []).map jn).map V.str)) hp4;have s6:=Same.upd (o:=.lst [V.str (Str.ofString "end")]) hp5;refine eX (s6 _ _ upd_same) upd_same (by simp only [List.length_map,List.length_cons,List.length_nil,List.length_append];omega) fun p6 hp6=>?_;have sA:=((((s12.trans s3).trans s4).trans s5).trans s6)
  refine q p6 _ (sA.trans (Same.upd hp6)) (sA.free hp6) ?_;rw [upd_same,sT,cG,zq6,zq6,cG,zq6,zq6,gi (l:="if ") Jk];simp only [List.append_assoc,List.cons_append,List.nil_append,Bool.false_or];rfl
 | @whl q0 a n xs rows f hq ha h1=>
  simp only [Stm.deep,Stm.many,Stm.good] at hd hm hg;simp_arith! [c5];refine zB _ _ hq rfl ?_;simp_arith! [c5];refine aS (fun z=>absurd z Jk) (fun _=>?_);refine aH ?_;simp_arith! [c5];refine zB _ _ hq rfl ?_;simp_arith! [c5];refine aS (fun _=>?_) (fun z=>absurd trivial z);refine zB _ _ hq rfl ?_;simp_arith! [c5];refine ⟨?_,fun p1 hp1=>?_⟩
  ·have:=(aV (hN.1 n hg.1)).2.2;rw [sizeLine_eq,show (Str.ofString "while ").length=6 by decide +kernel];omega
  have s2:=Same.upd (o:=.lst [V.str (Str.ofString "while "++n)]) hp1;refine zB _ _ (s2.seqT hq) rfl ?_;rw [c5];refine zO xs rows f ns w (s2 _ _ ha) (h1.same s2) Jn Jn hN hg.2 fun p2 H2 s3 hp2 he=>?_;have lc:=cq (al:=false) (ss:=rows);refine eX (s3 _ _ upd_same) he (by simp only [List.length_map,List.length_cons,List.length_nil];omega) fun p4 hp4 p5 hp5=>?_;have s5:=Same.upd (o:=.lst ([V.str (Str.ofString "while "++n)]++(ln false rows).map V.str)) hp4;have s6:=Same.upd (o:=.lst [V.str (Str.ofString "end")]) hp5;refine eX (s6 _ _ upd_same) upd_same (by simp only [List.length_map,List.length_cons,List.length_nil,List.length_append];omega) fun p6 hp6=>?_;have sA:=((s2.trans s3).trans s5).trans s6;refine q p6 _ (sA.trans (Same.upd hp6)) (sA.free hp6) ?_;rw [upd_same,sT,cG,zq6,cG,zq6,gi (l:="while ") Jk];rfl
theorem oj(T:Txt K mg t):∀d,FnOk P w K mg base CX0 (2 * d+1) t.f_106 t.e_106 ["row"] (fL K d)/\FnOk P w K mg base CX0 (2 * d+2) t.f_105 t.e_105 ["rows"] (hZ K d)
 |0=>by
  have h0:FnOk P w K mg base CX0 (2 * 0+1) t.f_106 t.e_106 ["row"] (fL K 0):=⟨fun vs H Q E h=>by obtain ⟨_,_,_,_,_,_,_,h,_⟩:=h;omega,fun _ _ _ _ _ _ _ _ _ _ _ _ _ h=>by obtain ⟨_,_,_,_,_,_,_,h,_⟩:=h;omega⟩
  exact ⟨h0,iF T 0 h0⟩
 |d+1=>by have h1:=oZ T d (oj T d).2;exact ⟨h1,iF T (d+1) h1⟩
def io(K:W.Frag)(C:Addr)(d:Nat)(p:Addr)(H:Hp)(Q:VK):Prop:=∃(wd:Int)(ins oth:List Str)(ss:List Stm)(a b r:Addr)(xs:List V)(f:List Addr),ProgAt K C H p wd ins oth ss a b r xs f/\aO ss<d/\aE ss<=1000/\ins.length<=1000/\oth.length<=1000/\NW (ins++oth) wd/\bq (ins++oth) wd ss/\
 ∀l H',Same H H'->H l=none->H' l=some (.lst (((hT wd ins oth).map jn++ln false ss).map V.str))->Q (.ref l) H'
def j9(K:W.Frag)(C:Addr)(d:Nat):Sp:=fun vs H Q _=>∃p:Addr,vs=[.ref p]/\io K C d p H Q
theorem l6{K:W.Frag}{C:Addr}{d:Nat}{p:Addr}{H:Hp}{Q:VK}{E:XK}:j9 K C d [.ref p] H Q E=io K C d p H Q:=propext ⟨by rintro ⟨_,e,q⟩;cases e;exact q,fun q=>zA _ rfl q⟩
def kwv(k:Str):V->V
 | .str s=>.str (k++s)
 |v=>v
theorem fc{k l:Str}(h:k++" "=l) (ns:List Str):(ns.map V.str).map (kwv l)=((ns.map fun n=>[k,n]).map jn).map V.str:=by rw [pX,pX,pX];refine List.map_congr_left fun n _=>?_;show V.str (l++n)=V.str (jn [k,n]);rw [gi h]
theorem ou(T:Txt K mg t)(d:Nat):FnOk P w K mg base CX0 (2 * d+3) t.f_104 t.e_104 ["program"] (j9 K t.C_Program d):=by
 have G_105:=(@oj P w K mg base t T d).2;refine T.d_104.F.ok sc_104 ∅ ?_;rintro cdv A outer s H vs Q E hr ⟨p,rfl,wd,ins,oth,ss,a,b,r,xs,f,hP,hd,hm,li,lo,hN,hg,q⟩;refine ⟨_,
   (XSs.h
   (ae
    (az (i:=1) sc_104.nd rfl ll (aI (aa (aj aM aq (aN dP gl T.z_str boot_str (aa (aU (yqv 0 vl) rfl) ab))) ab)))
   (ae
    (aL (bv PySem.F.plainAttrs_list PySem.F.slot_list_extend PySem.F.type_list_extend eB (yqv 1 vl) (aa (bX (tns:=["name"]) (cns:=[]) (ci:=[]) rfl (CompSc.of Jl) (bJ (aU (yqv 0 vl) rfl)) (fun _=>(aK (i:=1) (show List.Nodup [(".0":Str),("name":Str)] by decide +kernel) rfl ll (Or.inr Jl))) (fun _=>cg) (fun _=>(aj aM aq (yqv 1 vl)))) ab)))
   (ae
    (aL (bv PySem.F.plainAttrs_list PySem.F.slot_list_extend PySem.F.type_list_extend eB (yqv 1 vl) (aa (bX (tns:=["name"]) (cns:=[]) (ci:=[]) rfl (CompSc.of Jl) (bJ (bO dn (aU (yqv 0 vl) rfl) (bK (av au gl T.z_len PySem.boot_len (aa (aU (yqv 0 vl) rfl) ab))) cL)) (fun _=>(aK (i:=1) (show List.Nodup [(".0":Str),("name":Str)] by decide +kernel) rfl ll (Or.inr Jl))) (fun _=>cg) (fun _=>(aj aM aq (yqv 1 vl)))) ab)))
   (af
    (ay (aj br (yqv 1 vl) (ap T.d_105 G_105 hr.m (aa (aU (yqv 0 vl) rfl) ab) gl)))))))),?_⟩
 rw [show start _ [V.ref p]=[some (.ref p),none] from rfl];simp_arith! [c5];obtain ⟨dx,hob⟩:=hP.ob;refine cn hob T.c_Program.cl T.n_Program_width rfl ?_;have hnum:=dm hN.2.1 (show wd<256 by have:=hN.2.2;omega);have hwl:=hnum.2.1.2.2;refine zG _ rfl (dk hN.2.1 (by have:=hN.2.2;omega)) ?_ fun l hl=>?_
 ·rw [sizeLine_eq,show (Str.ofString "width ").length=6 by decide +kernel];have:(Str.ofString (toString wd)).length<=20:=hwl;omega
 have s1:=Same.upd (o:=.lst [V.str (Str.ofString "width "++Str.ofString (toString wd))]) hl;have hl1:upd H l (.lst [V.str (Str.ofString "width "++Str.ofString (toString wd))]) l=some (.lst [V.str (Str.ofString "width "++Str.ofString (toString wd))]):=upd_same;generalize upd H l (.lst [V.str (Str.ofString "width "++Str.ofString (toString wd))])=H1 at s1 hl1 ⊢;refine aH ?_;simp_arith! [c5];refine ⟨.inl ⟨rfl,_,SqL.of hl1⟩,?_⟩;refine cn (s1 _ _ hob) T.c_Program.cl T.n_Program_ins rfl ?_;refine zF a rfl ⟨_,SqL.of (s1 _ _ hP.ia)⟩ fun acc hacc bk=>?_;refine f7 (kwv "in ") (by rw [zq0,sizeLine_eq];omega) (SqL.of (s1 _ _ hP.ia)) hacc (fun x hx H' Q' sm hh=>?_) ?_
 ·obtain ⟨n,hn,rfl⟩:=zq33.mp hx;rwa [];refine ⟨?_,hh⟩;have:=(aV (hN.1 n (d9 _ hn))).2.2;rw [sizeLine_eq,show (Str.ofString "in ").length=3 by decide +kernel];omega
 rw [fc (k:="in") (l:="in ") Jk];have s2:=(s1.trans (Same.upd (o:=.lst (((ins.map fun n=>[("in":Str),n]).map jn).map V.str)) hacc)).updM (o:=.lst ([V.str (Str.ofString "width "++Str.ofString (toString wd))]++((ins.map fun n=>[("in":Str),n]).map jn).map V.str)) hl;refine zD _ _ (by rw [aC (aw hl1 hacc)];exact hl1) upd_same (by rw [sizeLine_eq];simp only [List.length_map,List.length_cons,List.length_nil];omega) (aH ?_);have hl2:upd (upd H1 acc (.lst (((ins.map fun n=>[("in":Str),n]).map jn).map V.str))) l (.lst ([V.str (Str.ofString "width "++Str.ofString (toString wd))]++((ins.map fun n=>[("in":Str),n]).map jn).map V.str)) l=some (.lst ([V.str (Str.ofString "width "++Str.ofString (toString wd))]++((ins.map fun n=>[("in":Str),n]).map jn).map V.str)):=upd_same;generalize upd (upd H1 acc (.lst (((ins.map fun n=>[("in":Str),n]).map jn).map V.str))) l (.lst ([V.str (Str.ofString "width "++Str.ofString (toString wd))]++((ins.map fun n=>[("in":Str),n]).map jn).map V.str))=H2 at s2 hl2 ⊢;clear s1 hl1 hacc;simp_arith! [c5];refine ⟨.inl ⟨rfl,_,SqL.of hl2⟩,?_⟩;refine cn (s2 _ _ hob) T.c_Program.cl T.n_Program_boxes rfl ?_;refine cn (s2 _ _ hob) T.c_Program.cl T.n_Program_ins rfl ?_;refine zB a _ rfl (.inl (SqL.of (s2 _ _ hP.ia))) (zB b _ rfl (SqL.of (s2 _ _ hP.bx)) fun pb hpb=>?_);rw [zq0,em Jn,fV,zq6,List.drop_left' (by rw [zq0])];have s3:=Same.upd (o:=.lst (oth.map V.str)) hpb;refine zF pb rfl ⟨_,SqL.of upd_same⟩ fun acc hacc bk=>?_;refine f7 (kwv "box ") (by rw [zq0,sizeLine_eq];omega) (SqL.of upd_same) hacc (fun x hx H' Q' sm hh=>?_) ?_
 ·obtain ⟨n,hn,rfl⟩:=zq33.mp hx;rwa [];refine ⟨?_,hh⟩;have:=(aV (hN.1 n (cx _ hn))).2.2;rw [sizeLine_eq,show (Str.ofString "box ").length=4 by decide +kernel];omega
 rw [fc (k:="box") (l:="box ") Jk];generalize hS:[V.str (Str.ofString "width "++Str.ofString (toString wd))]++((ins.map fun n=>[("in":Str),n]).map jn).map V.str=S1 at hl2 ⊢;have s4:=(s3.trans (Same.upd (o:=.lst (((oth.map fun n=>[("box":Str),n]).map jn).map V.str)) hacc))
 have s5:=(s2.trans s4).updM (o:=.lst (S1++((oth.map fun n=>[("box":Str),n]).map jn).map V.str)) hl;have lS:S1.length=1+ins.length:=by rw [<- hS];simp only [List.length_map,List.length_cons,List.length_nil,List.length_append]
 refine zD _ _ (s4 _ _ hl2) upd_same (by rw [sizeLine_eq];simp only [List.length_map];omega) (aH ?_);generalize hH5:upd (upd (upd H2 pb (.lst (oth.map V.str))) acc (.lst (((oth.map fun n=>[("box":Str),n]).map jn).map V.str))) l (.lst (S1++((oth.map fun n=>[("box":Str),n]).map jn).map V.str))=H5 at s5 ⊢;have hl5:H5 l=some (.lst (S1++((oth.map fun n=>[("box":Str),n]).map jn).map V.str)):=by rw [<- hH5];exact upd_same
 clear hH5 s4 hacc s3 hpb;simp_arith! [c5];refine cn (s5 _ _ hob) T.c_Program.cl T.n_Program_rows rfl ?_;rw [c5];have lc:=cq (al:=false) (ss:=ss);refine zO xs ss f (ins++oth) wd (s5 _ _ hP.rs) (hP.st.same s5) hd hm hN hg fun p2 H6 s6 hp2 he=>?_;refine eX (s6 _ _ hl5) he (by simp only [List.length_map,List.length_append];omega) fun p3 hp3=>?_;have sA:=s5.trans s6;refine q p3 _ (sA.trans (Same.upd hp3)) (sA.free hp3) ?_;rw [upd_same,<- hS];unfold hT;rw [cG,zq6,zq6,cG,zq6,gi (l:="width ") Jk];simp only [List.append_assoc,List.cons_append,List.nil_append]
def fY(K:W.Frag)(d:Nat)(a:Addr)(al:Bool)(H:Hp)(Q:VK):Prop:=∃(xs:List V)(ss:List Stm)(f:List Addr)(ns:List Str)(w:Int),H a=some (.lst xs)/\StmsV K H xs ss f/\aO ss<d/\aE ss<=1000/\NW ns w/\bq ns w ss/\
 ∀p H',Same H H'->H p=none->H' p=some (.lst ((ln al ss).map V.str))->Q (.ref p) H'
def dr(K:W.Frag)(d:Nat):Sp:=fun vs H Q _=>∃(a:Addr)(al:Bool),vs=[.ref a,.bl al]/\fY K d a al H Q
theorem bu{K:W.Frag}{d:Nat}{a:Addr}{al:Bool}{H:Hp}{Q:VK}{E:XK}:dr K d [.ref a,.bl al] H Q E=fY K d a al H Q:=propext ⟨by rintro ⟨_,_,e,q⟩;cases e;exact q,fun q=>zE _ _ rfl q⟩
def rn(xs:List V)(x:Str):Prop:=xs=[.str x]\/∃i:Int,xs=[.int i]/\i.natAbs.log2<1920/\x=toString i
theorem df{X:Cx}:c4 X (.type "str") (fun xs H Q=>∃x:Str,rn xs x/\Q (.str x) H):=by
 intro pins s σ H xs us Q I r h;obtain ⟨x,h | ⟨i,h1,h2,rfl⟩,q⟩:=h
 ·exact el pins s σ H xs us Q I r (.inr (zA x h q))
 ·exact el pins s σ H xs us Q I r (.inl (zF i h1 h2 q))
theorem dt{ns:List Str}{w:Int}{o:Opd}(hN:NW ns w)(h:Opd.good ns w o):rn [o.v] (otx o):=by
 cases o with
 |box n=>exact .inl rfl
 |word i=>
  have p:(2:Int) ^ w.toNat<=2 ^ 8:=by
   have:=hN.2.2
   exact_mod_cast pW Jm Jn
  exact .inr (zF i rfl (dk h.1 (by have:=h.2;omega)) rfl)
theorem jy:(Str.ofString "tell ").length=5/\(Str.ofString " = ").length=3/\(Str.ofString " ").length=1/\(Str.ofString "if").length=2/\(Str.ofString "while").length=5:=by decide +kernel
theorem qA{K:W.Frag}{H:Hp}{al:Bool}{q0 b:Addr}{n:Str}{a:Addr}{ys:List V}{l:List Stm}{A B:Prop}(hq:SqT K H q0 [.str "if",.str n,.ref a,.ref b]) (hb:H b=some (.lst ys)) (hl:ys.length=l.length) (hA:(al || !l.isEmpty)=true->A) (hB:(al || !l.isEmpty)=false->B) :
  if al=true then (if True then A else B) else ∃xs v,SqT K H q0 xs/\atI xs 3=some v/\∃p ys,[v]=[V.ref p]/\(SqL K H p ys\/SqT K H p ys)/\if decide ((0:Int)<(ys.length:Int))=true then A else B:=by
 cases al with
 |true=>rw [if_pos rfl,if_pos trivial];exact hA rfl
 |false=>
  rw [if_neg zq3];refine zB _ _ hq rfl (zB b ys rfl (.inl (SqL.of hb)) ?_)
  cases l with
  |nil=>rw [if_neg (by simp at hl;simp [hl])];exact hB rfl
  |cons x l=>rw [if_pos (by simp at hl;simp [hl])];exact hA rfl
theorem n6{d:Deed}(hf:d.fine):∃k0,atI d.vs 0=some (.str k0)/\inV (.str k0) [.str "if",.str "while"]=false:=by
 have ho:∀k∈FB.opsL,inV (.str k) [.str "if",.str "while"]=false:=by decide +kernel
 cases d with
 |tell o=>exact zA _ rfl Jk
 |copy n o=>exact zA _ rfl Jk
 |op k n o p=>exact zA _ rfl (ho k hf)
theorem iE(T:Txt K mg t)(d:Nat)(G_134:FnOk P w K mg base CX0 (d+1) t.f_134 t.e_134 ["_law_rows","_law_always"] (dr K d)):FnOk P w K mg base CX0 (d+2) t.f_134 t.e_134 ["_law_rows","_law_always"] (dr K (d+1)):=by
 refine T.d_134.F.ok sc_134 ∅ ?_;rintro cdv A outer s H vs Q E hr ⟨a,al,rfl,xs,ss,f,ns,w,ha,hx,hd,hm,hN,hg,q⟩;refine ⟨_,
   (XSs.h
   (ae
    (az (i:=2) sc_134.nd rfl ll (aI ab))
   (ae
    (bZ PassesOwn.never rfl (bJ (yqv 0 vl)) (aK (i:=3) sc_134.nd rfl ll)
     (af
      (aF (ak eD (am aJ (yqv 3 vl) ac) (aX (cm Jp)) rfl)
       (ae
        (az (i:=2) sc_134.nd rfl ll (aj br (aj br (yqv 2 vl) (aI (aa (aj aM (aj aM (am aJ (yqv 3 vl) ac) aq) (am aJ (yqv 3 vl) ac)) ab))) (ap T.d_134 G_134 hr.m (aa (am aJ (yqv 3 vl) ac) (aa (yqv 1 vl) ab)) gl)))
       (b9
        (aF (aZ (bU (ak bf (am aJ (yqv 3 vl) ac) aq (aB _)) (bL (aZ (bw (bh (yqv 1 vl)) (bA (ak c8 (av au gl T.z_len PySem.boot_len (aa (am aJ (yqv 3 vl) ac) ab)) ac (aB _))))))))
         (af
          (az (i:=2) sc_134.nd rfl ll (aj br (aj br (yqv 2 vl) (aI (aa aq ab))) (ap T.d_134 G_134 hr.m (aa (am aJ (yqv 3 vl) ac) (aa (yqv 1 vl) ab)) gl))))
         aA)
       (af
        (aL (bv PySem.F.plainAttrs_list PySem.F.slot_list_append PySem.F.type_list_append b4 (yqv 2 vl) (aa aq ab))))))
       (af
        (aF (ak bf (am aJ (yqv 3 vl) ac) aq (aB _))
         (af
          (aL (bv PySem.F.plainAttrs_list PySem.F.slot_list_append PySem.F.type_list_append b4 (yqv 2 vl) (aa (aj aM aq (aN df gl T.z_str boot_str (aa (am aJ (yqv 3 vl) ac) ab))) ab))))
         (af
          (aF (ak bf (am aJ (yqv 3 vl) ac) aq (aB _))
           (af
            (aL (bv PySem.F.plainAttrs_list PySem.F.slot_list_append PySem.F.type_list_append b4 (yqv 2 vl) (aa (aj aM (aj aM (am aJ (yqv 3 vl) ac) aq) (aN df gl T.z_str boot_str (aa (am aJ (yqv 3 vl) ac) ab))) ab))))
           (af
            (aL (bv PySem.F.plainAttrs_list PySem.F.slot_list_append PySem.F.type_list_append b4 (yqv 2 vl) (aa (aj aM (aj aM (aj aM (aj aM (aj aM (aj aM (am aJ (yqv 3 vl) ac) aq) (aN df gl T.z_str boot_str (aa (am aJ (yqv 3 vl) ac) ab))) aq) (am aJ (yqv 3 vl) ac)) aq) (aN df gl T.z_str boot_str (aa (am aJ (yqv 3 vl) ac) ab))) ab)))))))))))
   (af
    (ay (yqv 2 vl)))))),?_⟩
 rw [show start _ [V.ref a,V.bl al]=[some (.ref a),some (.bl al),none,none] from rfl];simp_arith! [bu];have lx:=hx.length;have lm:=d4 ss;intro l0 hl0;refine aH ?_;simp_arith! [bu];refine ⟨⟨_,SqL.of (Same.upd hl0 _ _ ha)⟩,fb (xs:=xs) (fun i σ H'=>Same H H'/\∃l o3,H l=none/\H' l=some (.lst ((ln al (ss.take i)).map V.str))/\σ=[some (.ref a),some (.bl al),some (.ref l),o3]) ⟨Same.upd hl0,zB l0 _ hl0 upd_same rfl⟩ ?_ ?_ ?_⟩
 ·rintro i σ H' _ ⟨sm,_⟩;exact SqL.of (sm _ _ ha)
 ·rintro i x σ H1 hxi ⟨sm,l,o3,hln,hl,rfl⟩;obtain ⟨s,f',hs,hsv,_⟩:=hx.get hxi;have hi:i<ss.length:=(zq19.mp hs).1;have hse:ss[i]=s:=(zq19.mp hs).2;have hds:=ck (dN hs);have hms:=d5 (dN hs);have hgs:=dh hg (dN hs);have l1:=cq (al:=al) (ss:=ss.take i);have l2:=dG (ss:=ss) (i:=i);have l3:=jQ (al:=al) s;rw [fW hi,hse,kH];generalize ln al (ss.take i)=Z at hl l1 ⊢;have hsv1:=hsv.same sm
  cases hsv1 with
  | @deed q0 dd hf hq=>
   rw [Stm.good] at hgs;rw [sT] at l3 ⊢;obtain ⟨k0,hk0,hin⟩:=n6 hf;simp_arith! [];refine zB _ _ hq hk0 fun p1 hp1=>zG _ (.inr (SqT.of upd_same)) rfl rfl ?_;rw [hin,if_neg zq3];have s2:=Same.upd (o:=.tup [V.str (Str.ofString "if"),V.str (Str.ofString "while")]) hp1;have hl2:=s2 _ _ hl;have hq2:=s2.seqT hq;have sm2:=sm.trans s2;generalize upd H1 p1 (.tup [V.str (Str.ofString "if"),V.str (Str.ofString "while")])=H2 at s2 hl2 hq2 sm2 ⊢;clear hq hl s2 hk0 hin hp1;obtain ⟨e5,e3,e1,_,_⟩:=jy;have fin:∀z:Str,z=jn (dT dd)->Same H (upd H2 l (.lst (Z.map V.str++[.str z])))/\∃l1 o3,H l1=none/\upd H2 l (.lst (Z.map V.str++[.str z])) l1=some (.lst ((Z++[jn (dT dd)]).map V.str))/\[some (V.ref a),some (V.bl al),some (V.ref l),some (V.ref q0)]=[some (.ref a),some (.bl al),some (.ref l1),o3]:=fun z e=>⟨sm2.updM hln,zB l _ hln (by rw [upd_same,e,zq6];rfl) rfl⟩
   have lZ:(Z.map V.str).length<sizeLine:=by rw [zq0,sizeLine_eq];omega
   cases dd with
   |tell o=>
    refine zD _ _ hq2 rfl rfl (zA _ rfl ?_);rw [if_pos Jk];have:=(cF hN.1 hN.2.2 hgs).1.2.2;refine ⟨.inl ⟨rfl,_,SqL.of hl2⟩,zB _ _ hq2 rfl (zF _ (dt hN hgs) (by rw [e5,sizeLine_eq];omega) (zF _ hl2 lZ (fin _ ?_)))⟩;exact (gi (l:="tell ") Jk _).symm
   |copy n o=>
    refine zD _ _ hq2 rfl rfl (zA _ rfl ?_);rw [if_neg Jk];refine zD _ _ hq2 rfl rfl (zA _ rfl ?_);rw [if_pos Jk];have h1:=(cF hN.1 hN.2.2 hgs.2).1.2.2;have h2:=(aV (hN.1 n hgs.1)).2.2;refine ⟨.inl ⟨rfl,_,SqL.of hl2⟩,zB _ _ hq2 rfl (zD _ _ rfl rfl (by rw [e3,sizeLine_eq];omega) (zB _ _ hq2 rfl (zF _ (dt hN hgs.2) (by rw [strLen_append,e3,sizeLine_eq];omega) (zF _ hl2 lZ (fin _ ?_)))))⟩;exact (qm _ _).symm
   |op k n o p=>
    refine zD _ _ hq2 rfl rfl (zA _ rfl ?_);rw [if_neg (by simpa using fun z=>dZ (k:="tell") hgs.1 Jk z)];refine zD _ _ hq2 rfl rfl (zA _ rfl ?_);rw [if_neg (by simpa using fun z=>dZ (k:="copy") hgs.1 Jk z)];have h1:=(cF hN.1 hN.2.2 hgs.2.2.1).1.2.2;have h2:=(aV (hN.1 n hgs.2.1)).2.2;have h3:=(cF hN.1 hN.2.2 hgs.2.2.2).1.2.2;have h4:=(kO hgs.1).2.2;refine ⟨.inl ⟨rfl,_,SqL.of hl2⟩,?_⟩;refine zB _ _ hq2 rfl (zD _ _ rfl rfl (by rw [e3,sizeLine_eq];omega) ?_);refine zB _ _ hq2 rfl (zF _ (dt hN hgs.2.2.1) (by rw [strLen_append,e3,sizeLine_eq];omega) ?_);refine ⟨by rw [strLen_append,strLen_append,e3,e1,sizeLine_eq];omega,zB _ _ hq2 rfl (zP _ _ rfl rfl (by rw [strLen_append,strLen_append,strLen_append,e3,e1,sizeLine_eq];omega) (by rw [strLen_append,strLen_append,strLen_append,strLen_append,e3,e1,sizeLine_eq];omega) ?_)⟩;refine zB _ _ hq2 rfl (zF _ (dt hN hgs.2.2.2) (by rw [strLen_append,strLen_append,strLen_append,strLen_append,strLen_append,e3,e1,sizeLine_eq];omega) (zF _ hl2 lZ (fin _ ?_)));exact (wq _ _ _ _).symm
  | @ifs q0 a1 b1 n xs1 ys1 ones others f1 g1 hq ha1 hb1 h1 h2=>
   simp only [Stm.deep,Stm.many,Stm.good] at hds hms hgs;simp_arith! [bu];refine zB _ _ hq rfl fun p1 hp1=>zG _ (.inr (SqT.of upd_same)) rfl rfl ?_;rw [if_pos Jk];have s2:=Same.upd (o:=.tup [V.str (Str.ofString "if"),V.str (Str.ofString "while")]) hp1;have hl2:=s2 _ _ hl;have hq2:=s2.seqT hq;have sm2:=sm.trans s2;have ha2:=s2 _ _ ha1;have hb2:=s2 _ _ hb1;have h12:=h1.same s2;have h22:=h2.same s2;generalize upd H1 p1 (.tup [V.str (Str.ofString "if"),V.str (Str.ofString "while")])=H2 at s2 hl2 hq2 sm2 ha2 hb2 h12 h22 ⊢;clear hq hl s2 hp1 h1 h2 ha1 hb1;obtain ⟨_,_,e1,e2,_⟩:=jy;have hn:=(aV (hN.1 n hgs.1)).2.2;refine zB _ _ hq2 rfl (zD _ _ rfl rfl (by rw [e1,e2,sizeLine_eq];omega) ?_);refine zB _ _ hq2 rfl (zD _ _ rfl rfl (by rw [strLen_append,e1,e2,sizeLine_eq];omega) fun p2 hp2=>?_);have s3:=Same.upd (o:=.lst [V.str (Str.ofString "if"++Str.ofString " "++n)]) hp2;refine zD _ _ (s3 _ _ hl2) upd_same (by rw [sizeLine_eq];simp only [List.length_map,List.length_cons,List.length_nil];omega) fun p3 hp3=>?_;have s4:=s3.trans (Same.upd (o:=.lst (Z.map V.str++[V.str (Str.ofString "if"++Str.ofString " "++n)])) hp3);refine zB _ _ (s4.seqT hq2) rfl ?_;rw [bu];refine zO xs1 ones f1 ns w (s4 _ _ ha2) (h12.same s4) Jn Jn hN hgs.2.1 fun p4 H5 s5 hp4 he=>?_;have lc:=cq (al:=al) (ss:=ones);have ld:=cq (al:=al) (ss:=others);refine eX (s5 _ _ upd_same) he (by simp only [List.length_map,List.length_cons,List.length_nil,List.length_append];omega) fun p5 hp5=>aH ?_;have s6:=(s4.trans s5).trans (Same.upd (o:=.lst ((Z.map V.str++[V.str (Str.ofString "if"++Str.ofString " "++n)])++(ln al ones).map V.str)) hp5);have hp5n:H p5=none:=sm2.free ((s4.trans s5).free hp5);have hp5e:upd H5 p5 (.lst ((Z.map V.str++[V.str (Str.ofString "if"++Str.ofString " "++n)])++(ln al ones).map V.str)) p5=some (.lst ((Z++jn ["if",n]::ln al ones).map V.str)):=by rw [upd_same,zq6,cG,fX];rfl
   generalize upd H5 p5 (.lst ((Z.map V.str++[V.str (Str.ofString "if"++Str.ofString " "++n)])++(ln al ones).map V.str))=H6 at s6 hp5e ⊢;have sm6:=sm2.trans s6;have hq6:=s6.seqT hq2;have hb6:=s6 _ _ hb2;have h26:=h22.same s6;clear s5 s4 s3 hp2 hp3 hp4 he hp5 ha2 hb2 h12 h22 hl2 sm2 sm;have l22:=h26.length;simp_arith! [bu];refine ⟨fun σ H'=>Same H H'/\∃l',H l'=none/\H' l'=some (.lst (((Z++jn ["if",n]::ln al ones)++(if al || !others.isEmpty then [("else":Str)]::lT al others else []).map jn).map V.str))/\σ=[some (.ref a),some (.bl al),some (.ref l'),some (.ref q0)],?_,?_⟩
   ·refine zB _ _ hq6 rfl ?_;simp_arith! [bu];rw [if_pos Jk];refine qA hq6 hb6 l22 (fun hc=>?_) (fun hc=>⟨sm6,zF p5 hp5n (by rw [hc,hp5e,if_neg zq3,vO,fU]) rfl⟩);rw [hc,if_pos rfl];intro p7 hp7;have s7:=Same.upd (o:=.lst [V.str (Str.ofString "else")]) hp7;refine zD _ _ (s7 _ _ hp5e) upd_same (by rw [sizeLine_eq];simp only [List.length_map,List.length_cons,List.length_nil,List.length_append];omega) fun p8 hp8=>?_;have s8:=s7.trans (Same.upd (o:=.lst ((Z++jn ["if",n]::ln al ones).map V.str++[V.str (Str.ofString "else")])) hp8);refine zB _ _ (s8.seqT hq6) rfl ?_;rw [bu];refine zO ys1 others g1 ns w (s8 _ _ hb6) (h26.same s8) Jn Jn hN hgs.2.2 fun p9 H9 s9 hp9 he=>?_;refine eX (s9 _ _ upd_same) he (by simp only [List.length_map,List.length_cons,List.length_nil,List.length_append];omega) fun pA hpA=>?_;have sA:=(s8.trans s9)
    refine ⟨(sm6.trans sA).trans (Same.upd hpA),zF pA ((sm6.trans sA).free hpA) ?_ rfl⟩;rw [upd_same,fX];exact congrArg (fun z=>some (HO.lst z)) (zq6 (f:=V.str) (l₁:=Z++jn [Str.ofString "if",n]::ln al ones) (l₂:=(jn [("else":Str)])::ln al others)).symm
   rintro σ H7 ⟨sm7,l7,hn7,hl7,rfl⟩;have le:((Z++jn ["if",n]::ln al ones)++(if al || !others.isEmpty then [("else":Str)]::lT al others else []).map jn).length<=10000:=by
    have z1:=d0 (al:=al) others;rw [zq8,zq8,cj,zq0]
    split
    ·rw [cj];omega
    ·rw [vS];omega
   refine aH ?_;simp_arith! [];refine ⟨.inl ⟨rfl,_,SqL.of hl7⟩,zG _ hl7 (by rw [zq0,sizeLine_eq];omega) (sm7.updM hn7) (zB l7 _ hn7 ?_ rfl)⟩;rw [upd_same,sT,cG,zq6,zq6];simp only [List.map_append,List.map_cons,List.append_assoc,List.cons_append];rfl
  | @whl q0 a1 n xs1 rows f1 hq ha1 h1=>
   simp only [Stm.deep,Stm.many,Stm.good] at hds hms hgs;simp_arith! [bu];refine zB _ _ hq rfl fun p1 hp1=>zG _ (.inr (SqT.of upd_same)) rfl rfl ?_;rw [if_pos Jk];have s2:=Same.upd (o:=.tup [V.str (Str.ofString "if"),V.str (Str.ofString "while")]) hp1;have hl2:=s2 _ _ hl;have hq2:=s2.seqT hq;have sm2:=sm.trans s2;have ha2:=s2 _ _ ha1;have h12:=h1.same s2;generalize upd H1 p1 (.tup [V.str (Str.ofString "if"),V.str (Str.ofString "while")])=H2 at s2 hl2 hq2 sm2 ha2 h12 ⊢;clear hq hl s2 hp1 h1 ha1;obtain ⟨_,_,e1,_,e2⟩:=jy;have hn:=(aV (hN.1 n hgs.1)).2.2;refine zB _ _ hq2 rfl (zD _ _ rfl rfl (by rw [e1,e2,sizeLine_eq];omega) ?_);refine zB _ _ hq2 rfl (zD _ _ rfl rfl (by rw [strLen_append,e1,e2,sizeLine_eq];omega) fun p2 hp2=>?_);have s3:=Same.upd (o:=.lst [V.str (Str.ofString "while"++Str.ofString " "++n)]) hp2;refine zD _ _ (s3 _ _ hl2) upd_same (by rw [sizeLine_eq];simp only [List.length_map,List.length_cons,List.length_nil];omega) fun p3 hp3=>?_;have s4:=s3.trans (Same.upd (o:=.lst (Z.map V.str++[V.str (Str.ofString "while"++Str.ofString " "++n)])) hp3);refine zB _ _ (s4.seqT hq2) rfl ?_;rw [bu];refine zO xs1 rows f1 ns w (s4 _ _ ha2) (h12.same s4) Jn Jn hN hgs.2 fun p4 H5 s5 hp4 he=>?_;have lc:=cq (al:=al) (ss:=rows);refine eX (s5 _ _ upd_same) he (by simp only [List.length_map,List.length_cons,List.length_nil,List.length_append];omega) fun p5 hp5=>aH ?_;have s6:=(s4.trans s5).trans (Same.upd (o:=.lst ((Z.map V.str++[V.str (Str.ofString "while"++Str.ofString " "++n)])++(ln al rows).map V.str)) hp5);have hp5n:H p5=none:=sm2.free ((s4.trans s5).free hp5);have hp5e:upd H5 p5 (.lst ((Z.map V.str++[V.str (Str.ofString "while"++Str.ofString " "++n)])++(ln al rows).map V.str)) p5=some (.lst ((Z++jn ["while",n]::ln al rows).map V.str)):=by rw [upd_same,zq6,cG,fX];rfl
   generalize upd H5 p5 (.lst ((Z.map V.str++[V.str (Str.ofString "while"++Str.ofString " "++n)])++(ln al rows).map V.str))=H6 at s6 hp5e ⊢;have sm6:=sm2.trans s6;have hq6:=s6.seqT hq2;simp_arith! [bu];refine zA (fun σ H'=>H'=H6/\σ=[some (.ref a),some (.bl al),some (.ref p5),some (.ref q0)]) ?_ ?_
   ·refine zB _ _ hq6 rfl ?_;simp_arith! [bu];rw [if_neg Jk];exact trivial
   rintro σ H7 ⟨rfl,rfl⟩;refine aH ?_;simp_arith! [];refine ⟨.inl ⟨rfl,_,SqL.of hp5e⟩,zG _ hp5e (by rw [zq0,zq8,cj,sizeLine_eq];omega) (sm6.updM hp5n) (zB p5 _ hp5n ?_ rfl)⟩;rw [upd_same,sT,cG,zq6];simp only [List.map_append,List.map_cons,List.append_assoc,List.cons_append];rfl
 ·rintro σ H' ⟨sm,l,o3,hln,hl,rfl⟩;rw [lx,f6] at hl;refine aH ?_;simp_arith! [];exact q l H' sm hln hl
theorem gn(T:Txt K mg t):∀d,FnOk P w K mg base CX0 (d+1) t.f_134 t.e_134 ["_law_rows","_law_always"] (dr K d)
 |0=>⟨fun vs H Q E h=>by obtain ⟨_,_,_,_,_,_,_,_,_,_,h,_⟩:=h;omega,fun _ _ _ _ _ _ _ _ _ _ _ _ _ h=>by obtain ⟨_,_,_,_,_,_,_,_,_,_,h,_⟩:=h;omega⟩
 |d+1=>iE T d (gn T d)
def ik(K:W.Frag)(wd:Int)(a b:Addr)(H:Hp)(Q:VK):Prop:=∃(ins oth:List Str),H a=some (.lst (ins.map V.str))/\H b=some (.lst (oth.map V.str))/\ins.length<=1000/\oth.length<=1000/\NW (ins++oth) wd/\
 ∀l H',Same H H'->H l=none->H' l=some (.lst (((hT wd ins oth).map jn).map V.str))->Q (.ref l) H'
def j5(K:W.Frag):Sp:=fun vs H Q _=>∃(wd:Int)(a b:Addr),vs=[.int wd,.ref a,.ref b]/\ik K wd a b H Q
theorem kZ{K:W.Frag}{wd:Int}{a b:Addr}{H:Hp}{Q:VK}{E:XK}:j5 K [.int wd,.ref a,.ref b] H Q E=ik K wd a b H Q:=propext ⟨by rintro ⟨_,_,_,e,q⟩;cases e;exact q,fun q=>zI _ _ _ rfl q⟩
theorem oi(T:Txt K mg t):FnOk P w K mg base CX0 1 t.f_135 t.e_135 ["_law_width","_law_ins","_law_others"] (j5 K):=by
 refine T.d_135.F.ok vt ∅ ?_;rintro cdv A outer s H vs Q E hr ⟨wd,a,b,rfl,ins,oth,ha,hb,li,lo,hN,q⟩;refine ⟨_,
   (XSs.h
   (af
    (ay (aj br (aj br (aI (aa (aj aM aq (aN dP gl T.z_str boot_str (aa (yqv 0 vl) ab))) ab)) (bX (tns:=["_law_name"]) (cns:=[]) (ci:=[]) rfl (CompSc.of Jl) (bJ (yqv 1 vl)) (fun _=>(aK (i:=1) (show List.Nodup [(".0":Str),("_law_name":Str)] by decide +kernel) rfl ll (Or.inr Jl))) (fun _=>cg) (fun _=>(aj aM aq (yqv 1 vl))))) (bX (tns:=["_law_name"]) (cns:=[]) (ci:=[]) rfl (CompSc.of Jl) (bJ (yqv 2 vl)) (fun _=>(aK (i:=1) (show List.Nodup [(".0":Str),("_law_name":Str)] by decide +kernel) rfl ll (Or.inr Jl))) (fun _=>cg) (fun _=>(aj aM aq (yqv 1 vl)))))))),?_⟩
 rw [show start _ [V.int wd,V.ref a,V.ref b]=[some (.int wd),some (.ref a),some (.ref b)] from rfl];simp_arith! [];have hnum:=dm hN.2.1 (show wd<256 by have:=hN.2.2;omega);have hwl:=hnum.2.1.2.2;refine zC (dk hN.2.1 (by have:=hN.2.2;omega)) ?_ fun l hl=>?_
 ·rw [sizeLine_eq,show (Str.ofString "width ").length=6 by decide +kernel];have:(Str.ofString (toString wd)).length<=20:=hwl;omega
 have s1:=Same.upd (o:=.lst [V.str (Str.ofString "width "++Str.ofString (toString wd))]) hl;refine ⟨⟨_,SqL.of (s1 _ _ ha)⟩,fun acc hacc bk=>?_⟩;refine f7 (kwv "in ") (by rw [zq0,sizeLine_eq];omega) (SqL.of (s1 _ _ ha)) hacc (fun x hx H' Q' sm hh=>?_) ?_
 ·obtain ⟨n,hn,rfl⟩:=zq33.mp hx;rwa [];refine ⟨?_,hh⟩;have:=(aV (hN.1 n (d9 _ hn))).2.2;rw [sizeLine_eq,show (Str.ofString "in ").length=3 by decide +kernel];omega
 rw [fc (k:="in") (l:="in ") Jk];have s2:=s1.trans (Same.upd (o:=.lst (((ins.map fun n=>[("in":Str),n]).map jn).map V.str)) hacc);refine zD _ _ ((Same.upd hacc) _ _ upd_same) upd_same (by rw [sizeLine_eq];simp only [List.length_map,List.length_cons,List.length_nil];omega) fun p3 hp3=>?_;have s3:=s2.trans (Same.upd (o:=.lst ([V.str (Str.ofString "width "++Str.ofString (toString wd))]++((ins.map fun n=>[("in":Str),n]).map jn).map V.str)) hp3);refine ⟨⟨_,SqL.of (s3 _ _ hb)⟩,fun acc2 hacc2 bk2=>?_⟩;refine f7 (kwv "box ") (by rw [zq0,sizeLine_eq];omega) (SqL.of (s3 _ _ hb)) hacc2 (fun x hx H' Q' sm hh=>?_) ?_
 ·obtain ⟨n,hn,rfl⟩:=zq33.mp hx;rwa [];refine ⟨?_,hh⟩;have:=(aV (hN.1 n (cx _ hn))).2.2;rw [sizeLine_eq,show (Str.ofString "box ").length=4 by decide +kernel];omega
 rw [fc (k:="box") (l:="box ") Jk];have s4:=s3.trans (Same.upd (o:=.lst (((oth.map fun n=>[("box":Str),n]).map jn).map V.str)) hacc2);refine zD _ _ ((Same.upd hacc2) _ _ upd_same) upd_same (by rw [sizeLine_eq];simp only [List.length_map,List.length_cons,List.length_nil,List.length_append];omega) fun p5 hp5=>?_;refine q p5 _ (s4.trans (Same.upd hp5)) (s4.free hp5) ?_;rw [upd_same];unfold hT;rw [cG,zq6,cG,zq6,gi (l:="width ") Jk];simp only [List.append_assoc,List.cons_append,List.nil_append]
variable {C' dx:Addr} {E:XK} {Q:VK}
def PtV(H:Hp)(L:Addr)(tss:List (List Str)):Prop:=∃as:List Addr,H L=some (.lst (as.map V.ref))/\Paired (fun a ts=>H a=some (.lst (ts.map V.str))) as tss
theorem PtV.mv{H H':Hp}{L:Addr}{tss:List (List Str)}(h:PtV H L tss)(s:∀c xs,H c=some (.lst xs)->H' c=some (.lst xs)):PtV H' L tss:=by obtain ⟨as,h1,h2⟩:=h;exact zA as (s _ _ h1) (h2.mono fun a ts e=>s _ _ e)
def cz(L:Addr)(wm:Int)(N:Addr)(pl mn:Int):List (Str×V):=[("parted",.ref L),("words_many",.int wm),("names",.ref N),("place",.int pl),("statements_many",.int mn)]
structure RdH(C:Addr)(H:Hp)(p L N:Addr)(tss:List (List Str))(ns:List Str)(wm:Int)(pl mn:Nat):Prop where
 ob:∃dx,H p=some (.ins C dx (cz L wm N pl mn))
 pt:PtV H L tss
 nm:H N=some (.lst (ns.map V.str))
section
variable {C p L N:Addr} {H H':Hp} {tss:List (List Str)} {ns:List Str} {wm:Int} {pl mn:Nat}
theorem SameX.lst{fs:List (Str×V)}(s:SameX p H H')(hp:H p=some (.ins C' dx fs)):∀c xs,H c=some (.lst xs)->H' c=some (.lst xs):=fun c xs e=>s c _ e fun z=>by rw [z,hp] at e;cases e
theorem SameX.ts{fs:List (Str×V)}(s:SameX p H H')(hp:H p=some (.ins C' dx fs)):TSame H H':=⟨fun b xs e=>s b _ e fun z=>(by rw [z,hp] at e;cases e),fun b o u e=>s b _ e fun z=>(by rw [z,hp] at e;cases e)⟩
theorem SameX.stms{K:W.Frag}{fs:List (Str×V)}{xs:List V}{ss:List Stm}{f:List Addr}(s:SameX p H H')(hp:H p=some (.ins C' dx fs))(h:StmsV K H xs ss f):StmsV K H' xs ss f:=
 h.keep (SameX.ts s hp) fun c hc o e=>s c o e fun z=>by obtain ⟨zs,hz⟩:=h.tracked c hc;rw [z,hp] at hz;cases hz
theorem RdH.mv(h:RdH C H p L N tss ns wm pl mn)(s:Same H H'):RdH C H' p L N tss ns wm pl mn:=⟨let ⟨dx,e⟩:=h.ob;⟨dx,s _ _ e⟩,h.pt.mv fun c xs e=>s _ _ e,s _ _ h.nm⟩
theorem eG{pl mn x:Int}:cu "place" (.int x) (cz L wm N pl mn)=cz L wm N x mn:=by kernel_rfl
theorem oJ{pl mn x:Int}:cu "statements_many" (.int x) (cz L wm N pl mn)=cz L wm N pl x:=by kernel_rfl
theorem RdH.place(h:RdH C H p L N tss ns wm pl mn)(hp:H p=some (.ins C dx (cz L wm N pl mn))):RdH C (upd H p (.ins C dx (cz L wm N ((pl:Int)+1) mn))) p L N tss ns wm (pl+1) mn:=
 ⟨⟨dx,by rw [upd_same];rfl⟩,h.pt.mv (SameX.lst SameX.upd hp),SameX.lst SameX.upd hp _ _ h.nm⟩
theorem RdH.many(h:RdH C H p L N tss ns wm pl mn)(hp:H p=some (.ins C dx (cz L wm N pl mn))):RdH C (upd H p (.ins C dx (cz L wm N pl ((mn:Int)+1)))) p L N tss ns wm pl (mn+1):=
 ⟨⟨dx,by rw [upd_same];rfl⟩,h.pt.mv (SameX.lst SameX.upd hp),SameX.lst SameX.upd hp _ _ h.nm⟩
end
def c7(tss:List (List Str))(k:Nat):List Str:=(tss[k]?).getD []
theorem bN{tss l:List (List Str)}{k:Nat}(h:tss.drop k=l):c7 tss k=l.headD []:=by
 unfold c7;have e:tss[k]?=l.head?:=by rw [<- h,List.head?_drop]
 rw [e,List.headD_eq_head?_getD]
theorem cB{tss a b:List (List Str)}{k:Nat}(h:tss.drop k=a++b):tss.drop (k+a.length)=b:=by rw [<- List.drop_drop,h,List.drop_left]
def kg(C p:Addr)(H:Hp)(Q:VK):Prop:=∃(L N:Addr)(tss:List (List Str)) (ns:List Str) (wm:Int) (pl mn:Nat),RdH C H p L N tss ns wm pl mn/\∀a H',Same H H'->H' a=some (.lst ((c7 tss pl).map V.str))->Q (.ref a) H'
def lp(C:Addr):Sp:=fun vs H Q _=>∃p:Addr,vs=[.ref p]/\kg C p H Q
theorem eJ{C p:Addr}{H:Hp}:lp C [.ref p] H Q E=kg C p H Q:=propext ⟨by rintro ⟨_,e,q⟩;cases e;exact q,fun q=>zA _ rfl q⟩
def mQ(C p:Addr)(n:Str)(H:Hp)(Q:VK):Prop:=∃(L N:Addr)(tss:List (List Str)) (ns:List Str) (wm:Int) (pl mn:Nat),RdH C H p L N tss ns wm pl mn/\n∈ns/\Q (.str n) H
def pw(C:Addr):Sp:=fun vs H Q _=>∃(p:Addr)(n:Str),vs=[.ref p,.str n]/\mQ C p n H Q
theorem ed{C p:Addr}{n:Str}{H:Hp}:pw C [.ref p,.str n] H Q E=mQ C p n H Q:=propext ⟨by rintro ⟨_,_,e,q⟩;cases e;exact q,fun q=>zE _ _ rfl q⟩
def mU(C p:Addr)(x:Str)(H:Hp)(Q:VK):Prop:=∃(L N:Addr)(tss:List (List Str)) (ns:List Str) (w:Int) (pl mn:Nat) (o:Opd),RdH C H p L N tss ns (2 ^ w.toNat) pl mn/\NW ns w/\Opd.good ns w o/\x=otx o/\∀H',Same H H'->Q o.v H'
def pC(C:Addr):Sp:=fun vs H Q _=>∃(p:Addr)(x:Str),vs=[.ref p,.str x]/\mU C p x H Q
theorem cU{C p:Addr}{x:Str}{H:Hp}:pC C [.ref p,.str x] H Q E=mU C p x H Q:=propext ⟨by rintro ⟨_,_,e,q⟩;cases e;exact q,fun q=>zE _ _ rfl q⟩
def ki(C p:Addr)(H:Hp)(Q:VK):Prop:=∃(L N:Addr)(tss:List (List Str)) (ns:List Str) (wm:Int) (pl mn:Nat),RdH C H p L N tss ns wm pl mn/\c7 tss pl=[("end":Str)]/\∀H',SameX p H H'->RdH C H' p L N tss ns wm (pl+1) mn->Q .non H'
def lq(C:Addr):Sp:=fun vs H Q _=>∃p:Addr,vs=[.ref p]/\ki C p H Q
theorem oW{C p:Addr}{H:Hp}:lq C [.ref p] H Q E=ki C p H Q:=propext ⟨by rintro ⟨_,e,q⟩;cases e;exact q,fun q=>zA _ rfl q⟩
theorem dY(T:Txt K mg t):FnOk P w K mg base CX0 1 t.f_116 t.e_116 ["self"] (lp t.C_RowReader):=by
 refine T.d_116.F.ok vi ∅ ?_;rintro cdv A outer s H vs Q E hr ⟨p,rfl,L,N,tss,ns,wm,pl,mn,hR,q⟩;refine ⟨_,
   (XSs.h
   (af
    (ay (gF (ak fO (aU (yqv 0 vl) rfl) (av au gl T.z_len PySem.boot_len (aa (aU (yqv 0 vl) rfl) ab)) (aB _)) (am aD (aU (yqv 0 vl) rfl) (aU (yqv 0 vl) rfl)) (aI ab))))),?_⟩
 rw [show start _ [V.ref p]=[some (.ref p)] from rfl];rwa [];obtain ⟨dx,hp⟩:=hR.ob;obtain ⟨as,hL,hA⟩:=id hR.pt;have la:=hA.length;refine cn hp T.c_RowReader.cl T.n_RowReader_place rfl ?_;refine cn hp T.c_RowReader.cl T.n_RowReader_parted rfl ?_;refine zB L _ rfl (.inl (SqL.of hL)) ?_;rwa [];rw [zq0,la];refine aS (fun h=>?_) (fun h=>?_)
 ·have hlt:pl<tss.length:=by omega
  obtain ⟨a,ha,hf⟩:=L2.Paired.getR hA (dc hlt);refine cn hp T.c_RowReader.cl T.n_RowReader_parted rfl ?_;refine cn hp T.c_RowReader.cl T.n_RowReader_place rfl ?_;refine zX L _ _ _ rfl rfl (SqL.of hL) (aP (by rw [da,ha];rfl)) (q a H (Same.refl _) ?_);unfold c7;rw [dc hlt];exact hf
 ·refine fun a ha=>q a _ (Same.upd ha) ?_;unfold c7;rw [jj Jn,upd_same];rfl
theorem jD(T:Txt K mg t):FnOk P w K mg base CX0 1 t.f_125 t.e_125 ["self","word"] (pw t.C_RowReader):=by
 refine T.d_125.F.ok vn ∅ ?_;rintro cdv A outer s H vs Q E hr ⟨p,n,rfl,L,N,tss,ns,wm,pl,mn,hR,hn,q⟩;refine ⟨_,
   (XSs.h
   (ae
    (aF (ak h9 (yqv 1 vl) (aU (yqv 0 vl) rfl) rfl)
     (af
      b5)
     aA)
   (af
    (ay (yqv 1 vl))))),?_⟩
 rw [show start _ [V.ref p,V.str n]=[some (.ref p),some (.str n)] from rfl];rwa [];obtain ⟨dx,hp⟩:=hR.ob;refine cn hp T.c_RowReader.cl T.n_RowReader_names rfl ?_;refine zP N _ rfl (.inl (SqL.of hR.nm)) rfl gf (zA _ rfl ?_);rw [gQ,decide_eq_true hn];exact q
theorem om(T:Txt K mg t):FnOk P w K mg base CX0 3 t.f_124 t.e_124 ["self","word"] (pC t.C_RowReader):=by
 have G_113:=@iN P w K mg base t T;have G_125:=@jD P w K mg base t T;refine T.d_124.F.ok vm ∅ ?_;rintro cdv A outer s H vs Q E hr ⟨p,x,rfl,L,N,tss,ns,w,pl,mn,o,hR,hN,hg,rfl,q⟩;refine ⟨_,
   (XSs.h
   (ae
    (aF (bg (bh (ap T.d_113 G_113 hr.m (aa (yqv 1 vl) ab) gl)))
     (af
      (ay (aR T.c_RowReader.cl T.d_125 G_125 hr.m (yqv 0 vl) (aa (yqv 1 vl) ab))))
     aA)
   (ae
    (aF (ak pP (aN de gl T.z_int boot_int (aa (yqv 1 vl) ab)) (aU (yqv 0 vl) rfl) (aB _))
     (af
      b5)
     aA)
   (af
    (ay (aN de gl T.z_int boot_int (aa (yqv 1 vl) ab))))))),?_⟩
 rw [show start _ [V.ref p,V.str (otx o)]=[some (.ref p),some (.str (otx o))] from rfl];rwa [kY,ed];have hok:=(cF hN.1 hN.2.2 hg).1;refine zC hok.1 (by have:=hok.2.2;omega) fun H1 s1=>?_;have hR1:=hR.mv s1;obtain ⟨dx,hp⟩:=hR1.ob
 cases o with
 |box n=>
  rw [show fE (otx (.box n))=false from nT (hN.1 n hg),if_pos Jm];exact aW hp rfl (zY L N tss ns _ pl mn hR1 hg (q _ s1))
 |word i=>
  have p8:(2:Int) ^ w.toNat<=2 ^ 8:=by
   have:=hN.2.2
   exact_mod_cast pW Jm Jn
  have i8:i<256:=by have:=hg.2;omega
  rw [show fE (otx (.word i))=true from (dm hg.1 i8).1,if_neg Jm];refine zG i rfl hg.1 Jn ?_;refine cn hp T.c_RowReader.cl T.n_RowReader_words_many rfl ?_;rwa [];rw [if_neg (by have:=hg.2;simpa using this)];exact zG i rfl hg.1 Jn (q _ s1)
theorem kN(T:Txt K mg t):FnOk P w K mg base CX0 2 t.f_123 t.e_123 ["self"] (lq t.C_RowReader):=by
 have G_116:=@dY P w K mg base t T;refine T.d_123.F.ok vk ∅ ?_;rintro cdv A outer s H vs Q E hr ⟨p,rfl,L,N,tss,ns,wm,pl,mn,hR,hE,q⟩;refine ⟨_,
   (XSs.h
   (ae
    (aF (ak (dH (n:=0) (fz Jm hr)) (bC T.c_RowReader.cl T.d_116 G_116 hr.m (yqv 0 vl)) (aI (aa aq ab)) (aB _))
     (af
      b5)
     aA)
   (af
    (bG (yqv 0 vl) (aj ba (aU (yqv 0 vl) rfl) ac) rfl)))),?_⟩
 rw [show start _ [V.ref p]=[some (.ref p)] from rfl];rwa [eJ];obtain ⟨dx,hp⟩:=hR.ob;refine aW hp rfl ?_;refine zi L N tss ns wm pl mn hR fun a H1 s1 ha p1 hp1=>?_;have s2:=s1.trans (Same.upd (o:=.lst [V.str (Str.ofString "end")]) hp1);refine zA true ?_ (zA _ rfl ?_)
 ·have z:=cD (K:=K) (n:=0) (xs:=c7 tss pl) (ys:=[("end":Str)]) (SqL.of (Same.upd (o:=.lst [V.str (Str.ofString "end")]) hp1 _ _ ha)) (SqL.of upd_same);rw [decide_eq_true hE] at z;exact z
 rw [if_neg Jm];have hR2:=hR.mv s2;have hp2:=s2 _ _ hp;generalize upd H1 p1 (.lst [V.str (Str.ofString "end")])=H2 at s2 hR2 hp2 ⊢;refine cn hp2 T.c_RowReader.cl T.n_RowReader_place rfl ?_;rwa [];refine eo hp2 T.c_RowReader.cl T.n_RowReader_place (show 5<1000 by decide) ?_;rw [eG];exact q _ ((SameX.of s2).trans SameX.upd) (hR2.place hp2)
def jq(K:W.Frag)(C p a:Addr)(H:Hp)(Q:VK):Prop:=∃(L N:Addr)(tss:List (List Str)) (ns:List Str) (w:Int) (pl mn:Nat) (d:Deed),RdH C H p L N tss ns (2 ^ w.toNat) pl mn/\NW ns w/\Deed.good ns w d/\(¬∃o,d=.tell o)/\H a=some (.lst ((dT d).map V.str))/\
 ∀q H',Same H H'->SqT K H' q d.vs->Q (.ref q) H'
def pv(K:W.Frag)(C:Addr):Sp:=fun vs H Q _=>∃(p a:Addr),vs=[.ref p,.ref a]/\jq K C p a H Q
theorem iS{K:W.Frag}{C p a:Addr}{H:Hp}{Q:VK}{E:XK}:pv K C [.ref p,.ref a] H Q E=jq K C p a H Q:=propext ⟨by rintro ⟨_,_,e,q⟩;cases e;exact q,fun q=>zE _ _ rfl q⟩
def il(C p L N:Addr)(wd:Int)(H:Hp)(Q:VK):Prop:=∃(dx:Addr)(tss:List (List Str)) (ns:List Str),H p=some (.ins C dx [])/\PtV H L tss/\H N=some (.lst (ns.map V.str))/\0<=wd/\wd<=8/\
 ∀H',SameX p H H'->RdH C H' p L N tss ns (2 ^ wd.toNat) 0 0->Q .non H'
def j8(C:Addr):Sp:=fun vs H Q _=>∃(p L N:Addr)(wd:Int),vs=[.ref p,.ref L,.int wd,.ref N]/\il C p L N wd H Q
theorem qQ{C p L N:Addr}{wd:Int}{H:Hp}{Q:VK}{E:XK}:j8 C [.ref p,.ref L,.int wd,.ref N] H Q E=il C p L N wd H Q:=propext ⟨by rintro ⟨_,_,_,_,e,q⟩;cases e;exact q,fun q=>zV _ _ _ _ rfl q⟩
theorem u7(T:Txt K mg t):FnOk P w K mg base CX0 4 t.f_119 t.e_119 ["self","words"] (pv K t.C_RowReader):=by
 have G_125:=@jD P w K mg base t T;have G_124:=@om P w K mg base t T;refine T.d_119.F.ok sc_119 ∅ ?_;rintro cdv A outer s H vs Q E hr ⟨p,a,rfl,L,N,tss,ns,w,pl,mn,d,hR,hN,hg,hd,ha,q⟩;refine ⟨_,
   (XSs.h
   (ae
    (az (i:=2) sc_119.nd rfl ll (aR T.c_RowReader.cl T.d_125 G_125 hr.m (yqv 0 vl) (aa (am aD (yqv 1 vl) ac) ab)))
   (ae
    (aF (ak bf (av au gl T.z_len PySem.boot_len (aa (yqv 1 vl) ab)) ac (aB _))
     (af
      (ay (aX (aa aq (aa (yqv 2 vl) (aa (aR T.c_RowReader.cl T.d_124 G_124 hr.m (yqv 0 vl) (aa (am aD (yqv 1 vl) ac) ab)) ab))))))
     aA)
   (ae
    (aF (aZ (bU (ak bf (av au gl T.z_len PySem.boot_len (aa (yqv 1 vl) ab)) ac (aB _)) (bL (ak eD (am aD (yqv 1 vl) ac) (bM (v:=.ref t.O_OPS) gl T.g_OPS rfl) rfl))))
     (af
      (ay (aX (aa (am aD (yqv 1 vl) ac) (aa (yqv 2 vl) (aa (aR T.c_RowReader.cl T.d_124 G_124 hr.m (yqv 0 vl) (aa (am aD (yqv 1 vl) ac) ab)) (aa (aR T.c_RowReader.cl T.d_124 G_124 hr.m (yqv 0 vl) (aa (am aD (yqv 1 vl) ac) ab)) ab)))))))
     aA)
   (af
    b5))))),?_⟩
 rw [show start _ [V.ref p,V.ref a]=[some (.ref p),some (.ref a),none] from rfl];obtain ⟨dx,hp⟩:=hR.ob
 cases d with
 |tell o=>exact absurd ⟨o,rfl⟩ hd
 |copy n o=>
  rwa [ed,cU];refine aW hp rfl (zB _ _ (SqL.of ha) rfl ?_);rw [ed];refine zY L N tss ns _ pl mn hR hg.1 ?_;refine zA _ (.inl (SqL.of ha)) ?_;rw [if_pos Jp];refine aW hp rfl (zB _ _ (SqL.of ha) rfl ?_);rw [cU];refine zm L N tss ns w pl mn o hR hN hg.2 rfl fun H1 s1 q1 hq1=>?_;exact q q1 _ (s1.trans (Same.upd hq1)) (SqT.of upd_same)
 |op k n o o2=>rwa [ed,cU];refine aW hp rfl (zB _ _ (SqL.of ha) rfl ?_);rw [ed];refine zY L N tss ns _ pl mn hR hg.2.1 ?_;refine zA _ (.inl (SqL.of ha)) ?_;rw [if_neg (by show ¬(false=true);decide)];refine zA _ (.inl (SqL.of ha)) ?_;rw [if_pos Jp];refine zB _ _ (SqL.of ha) rfl (zG _ (.inr (T.o_OPS H)) rfl rfl ?_);rw [if_pos (by show inV (.str k) (FB.opsL.map V.str)=true;rw [gQ];exact decide_eq_true hg.1)];refine zB _ _ (SqL.of ha) rfl (aW hp rfl (zB _ _ (SqL.of ha) rfl ?_));rw [cU];refine zm L N tss ns w pl mn o hR hN hg.2.2.1 rfl fun H1 s1=>?_;refine aW (s1 _ _ hp) rfl (zB _ _ (SqL.of (s1 _ _ ha)) rfl ?_);rw [cU];refine zm L N tss ns w pl mn o2 (hR.mv s1) hN hg.2.2.2 rfl fun H2 s2 q1 hq1=>?_;exact q q1 _ ((s1.trans s2).trans (Same.upd hq1)) (SqT.of upd_same)
theorem oq(T:Txt K mg t):FnOk P w K mg base CX0 2 t.f_114 t.e_114 ["self","parted","width","names"] (j8 t.C_RowReader):=by
 have G_103:=@fS P w K mg base t T;refine T.d_114.F.ok vh ∅ ?_;rintro cdv A outer s H vs Q E hr ⟨p,L,N,wd,rfl,dx,tss,ns,hp,hL,hn,w0,w8,q⟩;refine ⟨_,
   (XSs.h
   (ae
    (bG (yqv 0 vl) (yqv 1 vl) rfl)
   (ae
    (bG (yqv 0 vl) (ap T.d_103 G_103 hr.m (aa (yqv 2 vl) ab) gl) rfl)
   (ae
    (bG (yqv 0 vl) (yqv 3 vl) rfl)
   (ae
    (bG (yqv 0 vl) ac rfl)
   (af
    (bG (yqv 0 vl) ac rfl))))))),?_⟩
 rw [show start _ [V.ref p,V.ref L,V.int wd,V.ref N]=[some (.ref p),some (.ref L),some (.int wd),some (.ref N)] from rfl];rwa [ef];refine eo hp T.c_RowReader.cl T.n_RowReader_parted Jo ?_;rw [bI Jp,List.nil_append];rwa [ef];refine zC w0 w8 ?_;refine eo upd_same T.c_RowReader.cl T.n_RowReader_words_many Jo ?_;rw [bI Jl,du];rwa [];refine eo upd_same T.c_RowReader.cl T.n_RowReader_names Jo ?_;rw [bI Jl,du];rwa [];refine eo upd_same T.c_RowReader.cl T.n_RowReader_place Jo ?_;rw [bI Jl,du];rwa [];refine eo upd_same T.c_RowReader.cl T.n_RowReader_statements_many Jo ?_;rw [bI Jl,du];refine q _ SameX.upd ⟨⟨dx,by rw [upd_same];rfl⟩,hL.mv (SameX.lst SameX.upd hp),SameX.lst SameX.upd hp _ _ hn⟩
variable {H:Hp}
def tu(l:List (List Str)):Prop:=l.headD []=[]\/l.headD []=[("else":Str)]\/l.headD []=[("end":Str)]
structure RdP(C:Addr)(H:Hp)(p L N:Addr)(tss:List (List Str))(ns:List Str)(w:Int)(pl mn:Nat):Prop where
 R:RdH C H p L N tss ns (2 ^ w.toNat) pl mn
 W:NW ns w
def kl(K:W.Frag)(C:Addr)(d:Nat)(p:Addr)(dep:Int)(H:Hp)(Q:VK):Prop:=∃(L N:Addr)(tss:List (List Str)) (ns:List Str) (w:Int) (pl mn:Nat) (al:Bool) (ss:List Stm) (rest:List (List Str)),RdP C H p L N tss ns w pl mn/\tss.drop pl=lT al ss++rest/\tu rest/\aO ss<d/\0<=dep/\dep+aO ss<=8/\mn+aE ss<=40/\bq ns w ss/\
 ∀r ys g H',SameX p H H'->RdP C H' p L N tss ns w (pl+(lT al ss).length) (mn+aE ss)->H' r=some (.lst ys)->StmsV K H' ys ss g->(∀c∈r::g,H c=none)->Q (.ref r) H'
def cP(K:W.Frag)(C:Addr)(d:Nat):Sp:=fun vs H Q _=>∃(p:Addr)(dep:Int),vs=[.ref p,.int dep]/\kl K C d p dep H Q
theorem eK{K:W.Frag}{C p:Addr}{d:Nat}{dep:Int}{Q:VK}{E:XK}:cP K C d [.ref p,.int dep] H Q E=kl K C d p dep H Q:=propext ⟨by rintro ⟨_,_,e,q⟩;cases e;exact q,fun q=>zE _ _ rfl q⟩
def kh(K:W.Frag)(C:Addr)(d:Nat)(p:Addr)(dep:Int)(H:Hp)(Q:VK):Prop:=∃(L N:Addr)(tss:List (List Str)) (ns:List Str) (w:Int) (pl mn:Nat) (al:Bool) (s:Stm) (rest:List (List Str)),RdP C H p L N tss ns w pl mn/\tss.drop pl=sT al s++rest/\s.deep<d/\0<=dep/\dep+s.deep<=8/\mn+s.many<=40/\s.good ns w/\
 ∀y g H',SameX p H H'->RdP C H' p L N tss ns w (pl+(sT al s).length) (mn+s.many)->StmV K H' y s g->(∀c∈g,H c=none)->Q y H'
def eh(K:W.Frag)(C:Addr)(d:Nat):Sp:=fun vs H Q _=>∃(p:Addr)(dep:Int),vs=[.ref p,.int dep]/\kh K C d p dep H Q
theorem oV{K:W.Frag}{C p:Addr}{d:Nat}{dep:Int}{Q:VK}{E:XK}:eh K C d [.ref p,.int dep] H Q E=kh K C d p dep H Q:=propext ⟨by rintro ⟨_,_,e,q⟩;cases e;exact q,fun q=>zE _ _ rfl q⟩
theorem wl(al:Bool)(s:Stm):∃h tl,sT al s=h::tl/\2<=h.length:=by
 cases s with
 |deed d=>exact zE _ _ (by rw [sT]) (by cases d<;>simp [dT])
 |ifs n a b=>exact zE _ _ (by rw [sT]) Jo
 |whl n a=>exact zE _ _ (by rw [sT]) Jo
theorem in3{K:W.Frag}{a p1 p2 p3 p4:Addr}{ah:List Str}{Z:VK}(ha:H a=some (.lst (ah.map V.str)))(h1:H p1=some (.lst []))(h2:H p2=some (.lst [.str "else"])) (h3:H p3=some (.lst [.str "end"])) (h4:H p4=some (.tup [.ref p1,.ref p2,.ref p3]))
 (n21:p2≠p1) (n31:p3≠p1) (n32:p3≠p2) (na1:p1≠a) (na2:p2≠a) (na3:p3≠a) (h:Z (.bl (!(decide (([]:List Str)=ah) || (decide ([("else":Str)]=ah) || (decide ([("end":Str)]=ah) || false))))) H):kX K 1 (.ref a) (.ref p4) H Z:=by
 refine zK p4 ([p1,p2,p3]) (fun b=>if b=p1 then decide (([]:List Str)=ah) else if b=p2 then decide ([("else":Str)]=ah) else decide ([("end":Str)]=ah)) rfl (SqT.of h4) (fun b hb=>?_) ?_
 ·rcases zq1.mp hb with rfl | hb
  ·dsimp only;rw [if_pos rfl];exact dS na1 (SqL.of h1) (SqL.of ha)
  rcases zq1.mp hb with rfl | hb
  ·dsimp only;rw [if_neg n21,if_pos rfl];exact dS na2 (SqL.of h2) (SqL.of ha)
  rw [zq9.mp hb];dsimp only;rw [if_neg n31,if_neg n32];exact dS na3 (SqL.of h3) (SqL.of ha)
 ·rw [jh,jh,jh,List.any_nil,if_pos rfl,if_neg n21,if_pos rfl,if_neg n31,if_neg n32];exact h
theorem tQ{ah:List Str}(h:2<=ah.length):(decide (([]:List Str)=ah) || (decide ([("else":Str)]=ah) || (decide ([("end":Str)]=ah) || false)))=false:=by rw [decide_eq_false (fun z=>by rw [<- z] at h;simp at h),decide_eq_false (fun z=>by rw [<- z] at h;simp at h),decide_eq_false (fun z=>by rw [<- z] at h;simp at h)];rfl
theorem qi{ah:List Str}(h:ah=[]\/ah=[("else":Str)]\/ah=[("end":Str)]):(decide (([]:List Str)=ah) || (decide ([("else":Str)]=ah) || (decide ([("end":Str)]=ah) || false)))=true:=by rcases h with z | z | z<;>rw [z]<;>decide +kernel
theorem gv(T:Txt K mg t)(d:Nat)(G_118:FnOk P w K mg base CX0 (4 * d+5) t.f_118 t.e_118 ["self","depth"] (eh K t.C_RowReader d)):FnOk P w K mg base CX0 (4 * d+6) t.f_117 t.e_117 ["self","depth"] (cP K t.C_RowReader d):=by
 have G_116:=@dY P w K mg base t T;refine T.d_117.F.ok sc_117 ∅ ?_;rintro cdv A outer s H vs Q E hr ⟨p,dep,rfl,L,N,tss,ns,w,pl,mn,al,ss,rest,hR,hdr,hst,hd,hd0,hd8,hm,hg,q⟩;refine ⟨_,
   (XSs.h
   (ae
    (az (i:=2) sc_117.nd rfl ll (aI ab))
   (ae
    (gG PassesOwn.never (ak (mf (n:=1) (fz Jm hr)) (bC T.c_RowReader.cl T.d_116 G_116 hr.m (yqv 0 vl)) (aX (aa (aI ab) (aa (aI (aa aq ab)) (aa (aI (aa aq ab)) ab)))) rfl)
     (af
      (aL (bv PySem.F.plainAttrs_list PySem.F.slot_list_append PySem.F.type_list_append b4 (yqv 2 vl) (aa (aR T.c_RowReader.cl T.d_118 G_118 hr.m (yqv 0 vl) (aa (yqv 1 vl) ab)) ab)))))
   (af
    (ay (yqv 2 vl)))))),?_⟩
 rw [show start _ [V.ref p,V.int dep]=[some (.ref p),some (.int dep),none] from rfl];rwa [eJ,oV];intro r hr0;obtain ⟨μ,hμ⟩:∃μ:L2.St->Hp->Nat,μ=fun _ H'=>match H' r with | some (.lst xs)=>ss.length-xs.length | _=>0:=⟨_,rfl⟩
 have lm:=d4 ss;obtain ⟨dx0,hp0⟩:=hR.R.ob;refine gE (fun σ H'=>(∃i ys g,i<=ss.length/\SameX p H H'/\RdP t.C_RowReader H' p L N tss ns w (pl+(lT al (ss.take i)).length) (mn+aE (ss.take i))/\H' r=some (.lst ys)/\StmsV K H' ys (ss.take i) g/\r∉g/\(∀c∈g,H c=none))/\σ=[some (.ref p),some (.int dep),some (.ref r)])
  μ ⟨zW 0 ([]) ([]) (zb (ek _) (SameX.of (Same.upd hr0)) ⟨by rw [vP,lT,aE];exact hR.R.mv (Same.upd hr0),hR.W⟩ upd_same .nil Jo fun c hc=>by cases hc),rfl⟩ ?_
 rintro σ H1 ⟨⟨i,ys,g,hi,sx,hR1,hr1,hs1,hrg,hfr⟩,rfl⟩;rwa [eJ,oV];obtain ⟨dx,hp⟩:=hR1.R.ob;refine aW hp rfl ?_;refine zi L N tss ns _ _ _ hR1.R fun a H2 s2 ha p1 hp1 p2 hp2 p3 hp3 p4 hp4=>?_;have t1:=Same.upd (o:=.lst []) hp1;have t2:=Same.upd (o:=.lst [V.str (Str.ofString "else")]) hp2;have t3:=Same.upd (o:=.lst [V.str (Str.ofString "end")]) hp3;have t4:=Same.upd (o:=.tup [V.ref p1,V.ref p2,V.ref p3]) hp4;have s3:=s2.trans (((t1.trans t2).trans t3).trans t4);refine in3 (ah:=c7 tss (pl+(lT al (ss.take i)).length)) (t4 _ _ (t3 _ _ (t2 _ _ (t1 _ _ ha)))) (t4 _ _ (t3 _ _ (t2 _ _ upd_same))) (t4 _ _ (t3 _ _ upd_same)) (t4 _ _ upd_same) upd_same
  (aw upd_same hp2).symm (aw (t2 _ _ upd_same) hp3).symm (aw upd_same hp3).symm (aw ha hp1).symm (aw (t1 _ _ ha) hp2).symm (aw (t2 _ _ (t1 _ _ ha)) hp3).symm (zA _ rfl ?_)
 generalize upd (upd (upd (upd H2 p1 (.lst [])) p2 (.lst [V.str (Str.ofString "else")])) p3 (.lst [V.str (Str.ofString "end")])) p4 (.tup [V.ref p1,V.ref p2,V.ref p3])=H3 at s3 ⊢;clear t1 t2 t3 t4 hp1 hp2 hp3 hp4 s2 ha;have hp3:=s3 _ _ hp;have hr3:=s3 _ _ hr1;have hs3:=hs1.same s3;have hR3:RdP t.C_RowReader H3 p L N tss ns w (pl+(lT al (ss.take i)).length) (mn+aE (ss.take i)):=⟨hR1.R.mv s3,hR1.W⟩
 have sx3:=sx.trans (SameX.of s3);have ly:=hs3.length;rw [eP,mG hi] at ly;have hcut:tss.drop (pl+(lT al (ss.take i)).length)=lT al (ss.drop i)++rest:=cB (by rw [hdr,<- fX,<- di,vU])
 by_cases hlt:i<ss.length
 ·obtain ⟨h,tl,hh,h2⟩:=wl al ss[i];have hcut2:tss.drop (pl+(lT al (ss.take i)).length)=sT al ss[i]++(lT al (ss.drop (i+1))++rest):=by rw [hcut,vV hlt,lT,fX]
  have e0:c7 tss (pl+(lT al (ss.take i)).length)=h:=by rw [bN hcut2,hh];rfl
  rw [e0,tQ h2,if_pos Jm];refine zF (fun σ' H'=>((∃i ys g,i<=ss.length/\SameX p H H'/\RdP t.C_RowReader H' p L N tss ns w (pl+(lT al (ss.take i)).length) (mn+aE (ss.take i))/\H' r=some (.lst ys)/\StmsV K H' ys (ss.take i) g/\r∉g/\(∀c∈g,H c=none))/\σ'=[some (.ref p),some (.int dep),some (.ref r)])/\μ σ' H'<μ [some (.ref p),some (.int dep),some (.ref r)] H1) (fun σ' H' h=>zF _ h.2 rfl h.1) (.inl ⟨rfl,_,SqL.of hr3⟩) ?_;refine aW hp3 rfl ?_;have hmem:ss[i]∈ss:=k8 hlt;have hds:=ck hmem;have htk:ss.take (i+1)=ss.take i++[ss[i]]:=fW hlt;have hmk:=dG (ss:=ss) (i:=i+1);rw [htk,bR,aE,aE] at hmk;refine zj L N tss ns w _ _ al (ss[i]) _ (zg hR3 hcut2 Jn hd0 Jn Jn (dh hg hmem) fun y g2 H4 sx4 hR4 hy hf2=>?_);have hp4:∃dx,H4 p=some (.ins t.C_RowReader dx _):=hR4.R.ob;obtain ⟨dx4,hp4⟩:=hp4;have hr4:H4 r=some (.lst ys):=SameX.lst sx4 hp3 _ _ hr3;have hs4:=SameX.stms sx4 hp3 hs3;have nr2:r∉g2:=fun z=>by rw [hf2 r z] at hr3;cases hr3
  have npr:p≠r:=fun z=>by rw [z,hr4] at hp4;cases hp4
  have hHr:H r=none:=hr0;refine zG ys hr4 (by rw [sizeLine_eq];omega) ⟨zW (i+1) (ys++[y]) (g++g2) (zb hlt ?_ ?_ upd_same ?_ ?_ ?_),rfl⟩ ?_
  ·exact fun c o e n=>by rw [aC (aw e hHr)];exact sx4 c o (sx3 c o e n) n
  ·rw [htk,di,bR,zq8,lT,lT,aE,aE,fU,vW,<- ka,<- ka];refine ⟨⟨⟨dx4,by rw [aC npr];exact hp4⟩,?_,?_⟩,hR.W⟩
   ·exact hR.R.pt.mv fun c xs e=>by rw [aC (aw e hHr)];exact SameX.lst (sx3.trans sx4) hp0 _ _ e
   ·rw [aC (aw hR.R.nm hHr)];exact SameX.lst (sx3.trans sx4) hp0 _ _ hR.R.nm
  ·rw [htk];exact (hs4.keep (TSame.updL hr4) (Kept.upd hrg)).snoc (hy.keep (TSame.updL hr4) (Kept.upd nr2))
  ·exact fun z=>(zq10.mp z).elim hrg nr2
  ·intro c hc;rcases zq10.mp hc with z | z
   ·exact hfr c z
   ·exact sx3.free hp3 (hf2 c z)
  ·rw [hμ];dsimp only;rw [upd_same,hr1];show ss.length-(ys++[y]).length<ss.length-ys.length;rw [zq8,fP];omega
 ·have hie:i=ss.length:=by omega
  subst hie;have e0:c7 tss (pl+(lT al (ss.take ss.length)).length)=rest.headD []:=by rw [bN hcut,List.drop_length,lT];rfl
  rw [e0,qi hst,if_neg Jm];rw [f6] at hR3 hs3;refine q r ys g H3 sx3 hR3 hr3 hs3 fun c hc=>?_;rcases zq1.mp hc with z | z
  ·rw [z];exact hr0
  ·exact hfr c z
def dU(al:Bool)(b:List Stm):List (List Str):=if al || !b.isEmpty then [("else":Str)]::lT al b else []
def km(K:W.Frag)(C:Addr)(d:Nat)(p:Addr)(n:Str)(dep:Int)(H:Hp)(Q:VK):Prop:=∃(L N:Addr)(tss:List (List Str)) (ns:List Str) (w:Int) (pl mn:Nat) (al:Bool) (a:List Stm) (rest:List (List Str)),RdP C H p L N tss ns w pl mn/\tss.drop pl=lT al a++[("end":Str)]::rest/\aO a<d/\0<=dep/\dep+aO a<=8/\mn+aE a<=40/\bq ns w a/\
 ∀y g H',SameX p H H'->RdP C H' p L N tss ns w (pl+((lT al a).length+1)) (mn+aE a)->StmV K H' y (.whl n a) g->(∀c∈g,H c=none)->Q y H'
def i3(K:W.Frag)(C:Addr)(d:Nat):Sp:=fun vs H Q _=>∃(p:Addr)(n:Str)(dep:Int),vs=[.ref p,.str n,.int dep]/\km K C d p n dep H Q
theorem oY{K:W.Frag}{C p:Addr}{d:Nat}{n:Str}{dep:Int}{H:Hp}{Q:VK}{E:XK}:i3 K C d [.ref p,.str n,.int dep] H Q E=km K C d p n dep H Q:=propext ⟨by rintro ⟨_,_,_,e,q⟩;cases e;exact q,fun q=>zI _ _ _ rfl q⟩
def kf(K:W.Frag)(C:Addr)(d:Nat)(p:Addr)(n:Str)(dep:Int)(H:Hp)(Q:VK):Prop:=∃(L N:Addr)(tss:List (List Str)) (ns:List Str) (w:Int) (pl mn:Nat) (al:Bool) (a b:List Stm) (rest:List (List Str)),RdP C H p L N tss ns w pl mn/\tss.drop pl=lT al a++(dU al b++[("end":Str)]::rest)/\aO a<d/\aO b<d/\0<=dep/\dep+aO a<=8/\dep+aO b<=8/\mn+(aE a+aE b)<=40/\bq ns w a/\bq ns w b/\
 ∀y g H',SameX p H H'->RdP C H' p L N tss ns w (pl+((lT al a).length+((dU al b).length+1))) (mn+(aE a+aE b))->StmV K H' y (.ifs n a b) g->(∀c∈g,H c=none)->Q y H'
def hX(K:W.Frag)(C:Addr)(d:Nat):Sp:=fun vs H Q _=>∃(p:Addr)(n:Str)(dep:Int),vs=[.ref p,.str n,.int dep]/\kf K C d p n dep H Q
theorem oT{K:W.Frag}{C p:Addr}{d:Nat}{n:Str}{dep:Int}{H:Hp}{Q:VK}{E:XK}:hX K C d [.ref p,.str n,.int dep] H Q E=kf K C d p n dep H Q:=propext ⟨by rintro ⟨_,_,_,e,q⟩;cases e;exact q,fun q=>zI _ _ _ rfl q⟩
theorem ng{al:Bool}{b:List Stm}{rest:List (List Str)}:tu (dU al b++[("end":Str)]::rest):=by
 unfold dU
 split
 ·exact .inr (.inl rfl)
 ·exact .inr (.inr rfl)
theorem lQ(T:Txt K mg t)(d:Nat)(G_117:FnOk P w K mg base CX0 (4 * d+6) t.f_117 t.e_117 ["self","depth"] (cP K t.C_RowReader d)):FnOk P w K mg base CX0 (4 * d+7) t.f_122 t.e_122 ["self","depth"] (cP K t.C_RowReader d):=by
 refine T.d_122.F.ok vj ∅ ?_;rintro cdv A outer s H vs Q E hr ⟨p,dep,rfl,hh⟩;have hd8:dep<=8:=by obtain ⟨L,N,tss,ns,w,pl,mn,al,ss,rest,_,_,_,_,_,h8,_⟩:=hh;omega
 have hob:∃dx fs,H p=some (.ins t.C_RowReader dx fs)/\fs.lookup ("rows_within":Str)=none:=by obtain ⟨L,N,tss,ns,w,pl,mn,al,ss,rest,hR,_⟩:=hh;obtain ⟨dx,e⟩:=hR.R.ob;exact zE dx _ e rfl
 obtain ⟨dx,fs,hp,hl⟩:=hob;refine ⟨_,
   (XSs.h
   (ae
    (aF (ak c8 (yqv 1 vl) (bM (v:=.int 8) gl T.g_MOST_DEEP ⟨_,rfl⟩) (aB _))
     (af
      b5)
     aA)
   (af
    (ay (aR T.c_RowReader.cl T.d_117 G_117 hr.m (yqv 0 vl) (aa (yqv 1 vl) ab)))))),?_⟩
 rw [show start _ [V.ref p,V.int dep]=[some (.ref p),some (.int dep)] from rfl];rwa [eK];rw [if_neg (by simpa using hd8)];exact aW hp hl hh
theorem pM(T:Txt K mg t)(d:Nat)(G_122:FnOk P w K mg base CX0 (4 * d+7) t.f_122 t.e_122 ["self","depth"] (cP K t.C_RowReader d)):FnOk P w K mg base CX0 (4 * d+8) t.f_121 t.e_121 ["self","name","depth"] (i3 K t.C_RowReader d):=by
 have G_123:=@kN P w K mg base t T;refine T.d_121.F.ok sc_121 ∅ ?_;rintro cdv A outer s H vs Q E hr ⟨p,n,dep,rfl,L,N,tss,ns,w,pl,mn,al,a,rest,hR,hdr,hd,hd0,hd8,hm,hg,q⟩;refine ⟨_,
   (XSs.h
   (ae
    (az (i:=3) sc_121.nd rfl ll (aR T.c_RowReader.cl T.d_122 G_122 hr.m (yqv 0 vl) (aa (yqv 2 vl) ab)))
   (ae
    (aL (bC T.c_RowReader.cl T.d_123 G_123 hr.m (yqv 0 vl)))
   (af
    (ay (aX (aa aq (aa (yqv 1 vl) (aa (yqv 3 vl) ab))))))))),?_⟩
 rw [show start _ [V.ref p,V.str n,V.int dep]=[some (.ref p),some (.str n),some (.int dep),none] from rfl];rwa [eK,oW];obtain ⟨dx,hp⟩:=hR.R.ob;refine aW hp rfl ?_;refine zn L N tss ns w pl mn al a _ hR hdr (.inr (.inr rfl)) hd hd0 hd8 hm hg fun r ys g H1 sx1 hR1 hr1 hs1 hf1=>?_;obtain ⟨dx1,hp1⟩:=hR1.R.ob;refine aW hp1 rfl ?_;refine zY L N tss ns _ _ _ hR1.R (by rw [bN (cB hdr)];rfl) fun H2 sx2 hR2 p3 hp3=>?_;have s3:=Same.upd (o:=.tup [V.str "while",V.str n,V.ref r]) hp3;refine q _ (r::g) _ ((sx1.trans sx2).trans (SameX.of s3)) ⟨by rw [<- ka];exact hR2.mv s3,hR.W⟩ (.whl (SqT.of upd_same) (s3 _ _ (SameX.lst sx2 hp1 _ _ hr1)) ((SameX.stms sx2 hp1 hs1).same s3)) hf1
theorem qh(T:Txt K mg t)(d:Nat)(G_122:FnOk P w K mg base CX0 (4 * d+7) t.f_122 t.e_122 ["self","depth"] (cP K t.C_RowReader d)):FnOk P w K mg base CX0 (4 * d+8) t.f_120 t.e_120 ["self","name","depth"] (hX K t.C_RowReader d):=by
 have G_123:=@kN P w K mg base t T;have G_116:=@dY P w K mg base t T;refine T.d_120.F.ok sc_120 ∅ ?_;rintro cdv A outer s H vs Q E hr ⟨p,n,dep,rfl,L,N,tss,ns,w,pl,mn,al,a,b,rest,hR,hdr,hda,hdb,hd0,hd8,hd8b,hm,hga,hgb,q⟩;refine ⟨_,
   (XSs.h
   (ae
    (az (i:=3) sc_120.nd rfl ll (aR T.c_RowReader.cl T.d_122 G_122 hr.m (yqv 0 vl) (aa (yqv 2 vl) ab)))
   (ae
    (az (i:=4) sc_120.nd rfl ll (aI ab))
   (b9
    (aF (ak (jI (n:=0) (fz Jm hr)) (bC T.c_RowReader.cl T.d_116 G_116 hr.m (yqv 0 vl)) (aI (aa aq ab)) (aB _))
     (ae
      (bG (yqv 0 vl) (aj ba (aU (yqv 0 vl) rfl) ac) rfl)
     (af
      (az (i:=4) sc_120.nd rfl ll (aR T.c_RowReader.cl T.d_122 G_122 hr.m (yqv 0 vl) (aa (yqv 2 vl) ab)))))
     aA)
   (ae
    (aL (bC T.c_RowReader.cl T.d_123 G_123 hr.m (yqv 0 vl)))
   (af
    (ay (aX (aa aq (aa (yqv 1 vl) (aa (yqv 3 vl) (aa (yqv 4 vl) ab)))))))))))),?_⟩
 rw [show start _ [V.ref p,V.str n,V.int dep]=[some (.ref p),some (.str n),some (.int dep),none,none] from rfl];simp_arith! [eK];obtain ⟨dx,hp⟩:=hR.R.ob;refine aW hp rfl ?_;refine zn L N tss ns w pl mn al a _ hR hdr ng hda hd0 hd8 Jn hga fun r ys g H1 sx1 hR1 hr1 hs1 hf1=>aH ?_;simp_arith! [];intro r2 hr2;refine aH ?_;simp_arith! [eJ,eK];obtain ⟨dx1,hp1⟩:=hR1.R.ob;have s2:=Same.upd (o:=.lst []) hr2;have hcut:=cB hdr;have e0:=bN hcut;refine ⟨fun σ H'=>∃r3 ys3 g3,SameX p H1 H'/\RdP t.C_RowReader H' p L N tss ns w (pl+((lT al a).length+(dU al b).length)) (mn+(aE a+aE b))/\H' r3=some (.lst ys3)/\StmsV K H' ys3 b g3/\(∀c∈r3::g3,H1 c=none)/\σ=[some (.ref p),some (.str n),some (.int dep),some (.ref r),some (.ref r3)],?_,?_⟩
 ·refine aW (s2 _ _ hp1) rfl ?_;refine zi L N tss ns _ _ _ (hR1.R.mv s2) fun a1 H3 s3 ha1 p4 hp4=>?_;have s4:=(s2.trans s3).trans (Same.upd (o:=.lst [V.str (Str.ofString "else")]) hp4);have z:=cD (K:=K) (n:=0) (xs:=c7 tss (pl+(lT al a).length)) (ys:=[("else":Str)]) (SqL.of (Same.upd (o:=.lst [V.str (Str.ofString "else")]) hp4 _ _ ha1)) (SqL.of upd_same);refine zA _ z (zA _ rfl ?_);have hr24:upd H3 p4 (.lst [V.str (Str.ofString "else")]) r2=some (.lst []):=Same.upd hp4 _ _ (s3 _ _ upd_same);have hp4':=s4 _ _ hp1;have hR4:=hR1.R.mv s4;generalize upd H3 p4 (.lst [V.str (Str.ofString "else")])=H4 at s4 hr24 hp4' hR4 ⊢;clear z ha1 hp4 s3 s2
  cases hc:al || !b.isEmpty with
  |true=>
   have eE:dU al b=[("else":Str)]::lT al b:=by unfold dU;rw [hc,if_pos rfl]
   rw [eE] at hcut e0 ⊢;rw [e0,if_pos Jp];refine cn hp4' T.c_RowReader.cl T.n_RowReader_place rfl ?_;simp_arith! [];refine eo hp4' T.c_RowReader.cl T.n_RowReader_place (show 5<1000 by decide) (aH ?_);rw [eG];have hR5:=hR4.place hp4';have sx5:SameX p H1 (upd H4 p (.ins t.C_RowReader dx1 (cz L (2 ^ w.toNat) N (((pl+(lT al a).length:Nat):Int)+1) ((mn+aE a:Nat):Int)))):=(SameX.of s4).trans SameX.upd;have hp5:upd H4 p (.ins t.C_RowReader dx1 (cz L (2 ^ w.toNat) N (((pl+(lT al a).length:Nat):Int)+1) ((mn+aE a:Nat):Int))) p=_:=upd_same;generalize upd H4 p (.ins t.C_RowReader dx1 (cz L (2 ^ w.toNat) N (((pl+(lT al a).length:Nat):Int)+1) ((mn+aE a:Nat):Int)))=H5 at hR5 sx5 hp5 ⊢;simp_arith! [eK];refine aW hp5 rfl ?_;have hcut5:tss.drop (pl+(lT al a).length+1)=lT al b++[("end":Str)]::rest:=cB (a:=[[("else":Str)]]) hcut;refine zn L N tss ns w _ _ al b _ ⟨hR5,hR.W⟩ hcut5 (.inr (.inr rfl)) hdb hd0 hd8b Jn hgb fun r6 ys6 g6 H6 sx6 hR6 hr6 hs6 hf6=>?_;refine zM r6 ys6 g6 (sx5.trans sx6) ?_ hr6 hs6 (fun c hc=>sx5.free hp5 (hf6 c hc)) rfl;rw [cj,show pl+((lT al a).length+((lT al b).length+1))=pl+(lT al a).length+1+(lT al b).length by omega,<- ka];exact hR6
  |false=>
   have eE:dU al b=[]:=by unfold dU;rw [hc,if_neg zq3]
   have eb:b=[]:=by
    cases b with
    |nil=>rfl
    |cons x b=>rw [show (!(x::b).isEmpty)=true from rfl,Bool.or_true] at hc;cases hc
   rw [eE] at e0 ⊢;rw [e0,if_neg (by show ¬(decide ([("end":Str)]=[("else":Str)])=true);decide +kernel)];subst eb;refine zM r2 ([]) ([]) (SameX.of s4) ?_ hr24 .nil (fun c hc=>?_) rfl
   ·rw [aE,vW,vS,vW];exact ⟨hR4,hR.W⟩
   ·rw [zq9.mp hc];exact hr2
 rintro σ H2 ⟨r3,ys3,g3,sx2,hR2,hr3,hs3,hf3,rfl⟩;refine aH ?_;simp_arith! [oW];obtain ⟨dx2,hp2⟩:=hR2.R.ob;refine aW hp2 rfl ?_;have hcut2:tss.drop (pl+((lT al a).length+(dU al b).length))=[("end":Str)]::rest:=by rw [<- ka];exact cB hcut
 refine zY L N tss ns _ _ _ hR2.R (by rw [bN hcut2];rfl) fun H3 sx3 hR3=>aH ?_;simp_arith! [];intro p4 hp4;have s4:=Same.upd (o:=.tup [V.str "if",V.str n,V.ref r,V.ref r3]) hp4;have sx13:=sx2.trans sx3;refine q _ (r::r3::(g++g3)) _ ((sx1.trans sx13).trans (SameX.of s4)) ⟨by rw [<- ka (lT al a).length,<- ka pl];exact hR3.mv s4,hR.W⟩ (.ifs (SqT.of upd_same) (s4 _ _ (SameX.lst sx13 hp1 _ _ hr1)) (s4 _ _ (SameX.lst sx3 hp2 _ _ hr3)) ((SameX.stms sx13 hp1 hs1).same s4) ((SameX.stms sx3 hp2 hs3).same s4)) fun c hc=>?_;rcases zq1.mp hc with z | z
 ·rw [z];exact hf1 r (zq4 ..)
 rcases zq1.mp z with z | z
 ·rw [z];exact sx1.free hp1 (hf3 r3 (zq4 ..))
 rcases zq10.mp z with z | z
 ·exact hf1 c (zq2 _ z)
 ·exact sx1.free hp1 (hf3 c (zq2 _ z))
theorem m9(T:Txt K mg t)(d:Nat)(G_120:FnOk P w K mg base CX0 (4 * d+8) t.f_120 t.e_120 ["self","name","depth"] (hX K t.C_RowReader d)) (G_121:FnOk P w K mg base CX0 (4 * d+8) t.f_121 t.e_121 ["self","name","depth"] (i3 K t.C_RowReader d)) :
  FnOk P w K mg base CX0 (4 * (d+1)+5) t.f_118 t.e_118 ["self","depth"] (eh K t.C_RowReader (d+1)):=by
 have G_116:=@dY P w K mg base t T;have G_119:=@u7 P w K mg base t T;have G_124:=@om P w K mg base t T;have G_125:=@jD P w K mg base t T;refine T.d_118.F.ok sc_118 ∅ ?_;rintro cdv A outer s H vs Q E hr ⟨p,dep,rfl,L,N,tss,ns,w,pl,mn,al,st,rest,hR,hdr,hd,hd0,hd8,hm,hg,q⟩;refine ⟨_,
   (XSs.h
   (ae
    (az (i:=2) sc_118.nd rfl ll (bC T.c_RowReader.cl T.d_116 G_116 hr.m (yqv 0 vl)))
   (ae
    (bG (yqv 0 vl) (aj ba (aU (yqv 0 vl) rfl) ac) rfl)
   (ae
    (bG (yqv 0 vl) (aj ba (aU (yqv 0 vl) rfl) ac) rfl)
   (b9
    (aF (ak c8 (aU (yqv 0 vl) rfl) (bM (v:=.int 40) gl T.g_MOST_STATEMENTS ⟨_,rfl⟩) (aB _))
     (af
      b5)
     aA)
   (ae
    (aF (aZ (bU (ak c8 (av au gl T.z_len PySem.boot_len (aa (yqv 2 vl) ab)) ac (aB _)) (bL (ak bf (am aD (yqv 2 vl) ac) aq (aB _)))))
     (af
      (ay (aR T.c_RowReader.cl T.d_119 G_119 hr.m (yqv 0 vl) (aa (yqv 2 vl) ab))))
     aA)
   (ae
    (aF (aZ (bU (ak bf (av au gl T.z_len PySem.boot_len (aa (yqv 2 vl) ab)) ac (aB _)) (bL (ak bf (am aD (yqv 2 vl) ac) aq (aB _)))))
     (af
      (ay (aX (aa aq (aa (aR T.c_RowReader.cl T.d_124 G_124 hr.m (yqv 0 vl) (aa (am aD (yqv 2 vl) ac) ab)) ab)))))
     aA)
   (ae
    (aF (aZ (bU (ak bf (av au gl T.z_len PySem.boot_len (aa (yqv 2 vl) ab)) ac (aB _)) (bL (ak bf (am aD (yqv 2 vl) ac) aq (aB _)))))
     (af
      (ay (aR T.c_RowReader.cl T.d_120 G_120 hr.m (yqv 0 vl) (aa (aR T.c_RowReader.cl T.d_125 G_125 hr.m (yqv 0 vl) (aa (am aD (yqv 2 vl) ac) ab)) (aa (aj ba (yqv 1 vl) ac) ab)))))
     aA)
   (ae
    (aF (aZ (bU (ak bf (av au gl T.z_len PySem.boot_len (aa (yqv 2 vl) ab)) ac (aB _)) (bL (ak bf (am aD (yqv 2 vl) ac) aq (aB _)))))
     (af
      (ay (aR T.c_RowReader.cl T.d_121 G_121 hr.m (yqv 0 vl) (aa (aR T.c_RowReader.cl T.d_125 G_125 hr.m (yqv 0 vl) (aa (am aD (yqv 2 vl) ac) ab)) (aa (aj ba (yqv 1 vl) ac) ab)))))
     aA)
   (af
    b5)))))))))),?_⟩
 rw [show start _ [V.ref p,V.int dep]=[some (.ref p),some (.int dep),none] from rfl];simp_arith! [eJ];obtain ⟨dx,hp⟩:=hR.R.ob;refine aW hp rfl ?_;refine zi L N tss ns _ pl mn hR.R fun a H1 s1 ha=>aH ?_;have hp1:=s1 _ _ hp;have hR1:=hR.R.mv s1;simp_arith! [];refine cn hp1 T.c_RowReader.cl T.n_RowReader_place rfl ?_;simp_arith! [];refine eo hp1 T.c_RowReader.cl T.n_RowReader_place (show 5<1000 by decide) (aH ?_);rw [eG];have hR2:=hR1.place hp1;have hp2:upd H1 p (.ins t.C_RowReader dx (cz L (2 ^ w.toNat) N ((pl:Int)+1) mn)) p=some (.ins t.C_RowReader dx (cz L (2 ^ w.toNat) N ((pl+1:Nat):Int) mn)):=by rw [upd_same];rfl
 have sx2:SameX p H (upd H1 p (.ins t.C_RowReader dx (cz L (2 ^ w.toNat) N ((pl:Int)+1) mn))):=(SameX.of s1).trans SameX.upd;have ha2:=SameX.lst (SameX.upd (o:=.ins t.C_RowReader dx (cz L (2 ^ w.toNat) N ((pl:Int)+1) mn))) hp1 _ _ ha;generalize upd H1 p (.ins t.C_RowReader dx (cz L (2 ^ w.toNat) N ((pl:Int)+1) mn))=H2 at hR2 hp2 sx2 ha2 ⊢;clear hR1 hp1 s1 ha;simp_arith! [];refine cn hp2 T.c_RowReader.cl T.n_RowReader_statements_many rfl ?_;simp_arith! [];refine eo hp2 T.c_RowReader.cl T.n_RowReader_statements_many (show 5<1000 by decide) (aH ?_);rw [oJ];have hR3:=hR2.many hp2;have hp3:upd H2 p (.ins t.C_RowReader dx (cz L (2 ^ w.toNat) N ((pl+1:Nat):Int) ((mn:Int)+1))) p=some (.ins t.C_RowReader dx (cz L (2 ^ w.toNat) N ((pl+1:Nat):Int) ((mn+1:Nat):Int))):=by rw [upd_same];rfl
 have sx3:SameX p H (upd H2 p (.ins t.C_RowReader dx (cz L (2 ^ w.toNat) N ((pl+1:Nat):Int) ((mn:Int)+1)))):=sx2.trans SameX.upd;have ha3:=SameX.lst (SameX.upd (o:=.ins t.C_RowReader dx (cz L (2 ^ w.toNat) N ((pl+1:Nat):Int) ((mn:Int)+1)))) hp2 _ _ ha2;generalize upd H2 p (.ins t.C_RowReader dx (cz L (2 ^ w.toNat) N ((pl+1:Nat):Int) ((mn:Int)+1)))=H3 at hR3 hp3 sx3 ha3 ⊢;clear hR2 hp2 sx2 ha2;have m1:=iG st;simp_arith! [];refine zA (fun σ H'=>H'=H3/\σ=[some (.ref p),some (.int dep),some (.ref a)]) ?_ ?_
 ·refine cn hp3 T.c_RowReader.cl T.n_RowReader_statements_many rfl ?_;simp_arith! [];rw [if_neg (by simp;omega)];exact trivial
 rintro σ H4 ⟨rfl,rfl⟩;refine aH ?_;rw [bN hdr] at ha3
 cases st with
 |deed dd=>
  rw [Stm.good] at hg;rw [sT] at hdr q;have asn:(¬∃o,dd=.tell o)->jq K t.C_RowReader p a H4 Q:=fun hne=>zR L N tss ns w _ _ dd (zT hR3 hR.W hg hne (by rw [ha3,sT];rfl) fun q1 H5 s5 hq5=>?_)
  rotate_left
  ·refine q _ [] H5 (sx3.trans (SameX.of s5)) ⟨hR3.mv s5,hR.W⟩ (.deed ?_ hq5) (fun c hc=>by cases hc)
   cases dd with
   |tell o=>exact trivial
   |copy n o=>exact trivial
   |op k n o o2=>exact hg.1
  cases dd with
  |tell o=>
   simp_arith! [iS,cU];refine zA _ (.inl (SqL.of ha3)) ?_;rw [if_pos Jp];refine zD _ _ (SqL.of ha3) rfl rfl (zA _ rfl ?_);have ho:=cF hR.W.1 hR.W.2.2 hg;rw [if_neg (by simpa using ho.2)];refine aH ?_;simp_arith! [cU];refine zA _ (.inl (SqL.of ha3)) ?_;rw [if_pos Jp];refine zD _ _ (SqL.of ha3) rfl rfl (zA _ rfl ?_);rw [if_pos Jp];refine aW hp3 rfl (zB _ _ (SqL.of ha3) rfl ?_);rw [cU];refine zm L N tss ns w _ _ o hR3 hR.W hg rfl fun H5 s5 p5 hp5=>?_;have s6:=s5.trans (Same.upd (o:=.tup [V.str (Str.ofString "tell"),o.v]) hp5);exact q _ [] _ (sx3.trans (SameX.of s6)) ⟨hR3.mv s6,hR.W⟩ (.deed trivial (SqT.of upd_same)) (fun c hc=>by cases hc)
  |copy n o=>
   simp_arith! [iS,cU];refine zA _ (.inl (SqL.of ha3)) ?_;rw [if_pos Jp];refine zD _ _ (SqL.of ha3) rfl rfl (zA _ rfl ?_);rw [if_pos Jp];exact aW hp3 rfl (asn fun ⟨o,z⟩=>by cases z)
  |op k n o o2=>
   simp_arith! [iS,cU];refine zA _ (.inl (SqL.of ha3)) ?_;rw [if_pos Jp];refine zD _ _ (SqL.of ha3) rfl rfl (zA _ rfl ?_);rw [if_pos Jp];exact aW hp3 rfl (asn fun ⟨o,z⟩=>by cases z)
 |ifs n b c=>
  simp only [Stm.good,Stm.deep,Stm.many] at hg hd hd8 hm q;rw [sT] at hdr q ha3;simp_arith! [iS,cU];refine zA _ (.inl (SqL.of ha3)) ?_;rw [if_pos Jp];refine zD _ _ (SqL.of ha3) rfl rfl (zA _ rfl ?_);have hn:=gX (hR.W.1 n hg.1);rw [if_neg (by simpa using hn)];refine aH ?_;simp_arith! [];refine zA _ (.inl (SqL.of ha3)) ?_;rw [if_pos Jp];refine zD _ _ (SqL.of ha3) rfl rfl (zA _ rfl ?_);rw [if_neg Jk];refine aH ?_;simp_arith! [ed,oT];refine zA _ (.inl (SqL.of ha3)) ?_;rw [if_pos Jp];refine zD _ _ (SqL.of ha3) rfl rfl (zA _ rfl ?_);rw [if_pos Jp];refine aW hp3 rfl (aW hp3 rfl (zB _ _ (SqL.of ha3) rfl ?_));rw [ed];refine zY L N tss ns _ _ _ hR3 hg.1 ?_;simp only [oT];have hcut:tss.drop (pl+1)=lT al b++(dU al c++[("end":Str)]::rest):=cB (a:=[["if",n]]) (by rw [hdr];unfold dU;simp only [List.append_assoc,List.cons_append,List.nil_append]);refine ⟨L,N,tss,ns,w,_,_,al,b,c,rest,⟨hR3,hR.W⟩,hcut,Jn,Jn,Jn,Jn,Jn,Jn,hg.2.1,hg.2.2,fun y g H5 sx5 hR5 hy hf=>?_⟩;refine q y g H5 (sx3.trans sx5) ?_ hy fun c hc=>sx3.free hp3 (hf c hc);have e1:pl+([("if":Str),n]::(lT al b++((if al || !c.isEmpty then [("else":Str)]::lT al c else [])++[[("end":Str)]]))).length=pl+1+((lT al b).length+((dU al c).length+1)):=by unfold dU;rw [cj,zq8,zq8,fP];omega
  rw [e1,show mn+(aE b+aE c+1)=mn+1+(aE b+aE c) by omega];exact hR5
 |whl n b=>
  simp only [Stm.good,Stm.deep,Stm.many] at hg hd hd8 hm q;rw [sT] at hdr q ha3;simp_arith! [iS,cU];refine zA _ (.inl (SqL.of ha3)) ?_;rw [if_pos Jp];refine zD _ _ (SqL.of ha3) rfl rfl (zA _ rfl ?_);have hn:=gX (hR.W.1 n hg.1);rw [if_neg (by simpa using hn)];refine aH ?_;simp_arith! [];refine zA _ (.inl (SqL.of ha3)) ?_;rw [if_pos Jp];refine zD _ _ (SqL.of ha3) rfl rfl (zA _ rfl ?_);rw [if_neg Jk];refine aH ?_;simp_arith! [];refine zA _ (.inl (SqL.of ha3)) ?_;rw [if_pos Jp];refine zD _ _ (SqL.of ha3) rfl rfl (zA _ rfl ?_);rw [if_neg Jk];refine aH ?_;simp_arith! [ed,oY];refine zA _ (.inl (SqL.of ha3)) ?_;rw [if_pos Jp];refine zD _ _ (SqL.of ha3) rfl rfl (zA _ rfl ?_);rw [if_pos Jp];refine aW hp3 rfl (aW hp3 rfl (zB _ _ (SqL.of ha3) rfl ?_));rw [ed];refine zY L N tss ns _ _ _ hR3 hg.1 ?_;simp only [oY];have hcut:tss.drop (pl+1)=lT al b++[("end":Str)]::rest:=cB (a:=[["while",n]]) (by rw [hdr];simp only [List.append_assoc,List.cons_append,List.nil_append]);refine zj L N tss ns w _ _ al b rest (zg ⟨hR3,hR.W⟩ hcut Jn Jn Jn Jn hg.2 fun y g H5 sx5 hR5 hy hf=>?_);refine q y g H5 (sx3.trans sx5) ?_ hy fun c hc=>sx3.free hp3 (hf c hc);have e1:pl+([("while":Str),n]::(lT al b++[[("end":Str)]])).length=pl+1+((lT al b).length+1):=by rw [cj,zq8,fP];omega
  rw [e1,show mn+(aE b+1)=mn+1+aE b by omega];exact hR5
theorem iP(T:Txt K mg t):∀d,FnOk P w K mg base CX0 (4 * d+5) t.f_118 t.e_118 ["self","depth"] (eh K t.C_RowReader d)/\FnOk P w K mg base CX0 (4 * d+6) t.f_117 t.e_117 ["self","depth"] (cP K t.C_RowReader d)
 |0=>by
  have h0:FnOk P w K mg base CX0 (4 * 0+5) t.f_118 t.e_118 ["self","depth"] (eh K t.C_RowReader 0):=⟨fun vs H Q E h=>by obtain ⟨_,_,_,_,_,_,_,_,_,_,_,_,_,_,_,h,_⟩:=h;omega,fun _ _ _ _ _ _ _ _ _ _ _ _ _ h=>by obtain ⟨_,_,_,_,_,_,_,_,_,_,_,_,_,_,_,h,_⟩:=h;omega⟩
  exact ⟨h0,gv T 0 h0⟩
 |d+1=>by have h1:=lQ T d (iP T d).2;have h2:=m9 T d (qh T d h1) (pM T d h1);exact ⟨h2,gv T (d+1) h2⟩
variable {E:XK} {H:Hp} {Q:VK}
def ii(K:W.Frag)(C:Addr)(d:Nat)(p:Addr)(H:Hp)(Q:VK):Prop:=∃(L N:Addr)(tss:List (List Str)) (ns:List Str) (w:Int) (al:Bool) (ss:List Stm),RdP C H p L N tss ns w 0 0/\tss=lT al ss/\aO ss<d/\aO ss<=8/\aE ss<=40/\bq ns w ss/\
 ∀r ys g H',SameX p H H'->H' r=some (.lst ys)->StmsV K H' ys ss g->(∀c∈r::g,H c=none)->Q (.ref r) H'
def iZ(K:W.Frag)(C:Addr)(d:Nat):Sp:=fun vs H Q _=>∃p:Addr,vs=[.ref p]/\ii K C d p H Q
theorem qG{K:W.Frag}{C p:Addr}{d:Nat}:iZ K C d [.ref p] H Q E=ii K C d p H Q:=propext ⟨by rintro ⟨_,e,q⟩;cases e;exact q,fun q=>zA _ rfl q⟩
def mW(L:Addr)(H:Hp)(Q:VK):Prop:=∃(tss:List (List Str)) (wd:Int),PtV H L ([("width":Str),toString wd]::tss)/\1<=wd/\wd<=8/\∀H',Same H H'->Q (.int wd) H'
def pD:Sp:=fun vs H Q _=>∃L:Addr,vs=[.ref L]/\mW L H Q
theorem xl{L:Addr}:pD [.ref L] H Q E=mW L H Q:=propext ⟨by rintro ⟨_,e,q⟩;cases e;exact q,fun q=>zA _ rfl q⟩
def ij(K:W.Frag)(a b:Addr)(H:Hp)(Q:VK):Prop:=∃(ins ns:List Str),SqL K H a (ins.map V.str)/\SqL K H b (ns.map V.str)/\ins.length<=4/\ns.length<=8/\ns.Nodup/\∀H',Same H H'->Q .non H'
def j3(K:W.Frag):Sp:=fun vs H Q _=>∃a b:Addr,vs=[.ref a,.ref b]/\ij K a b H Q
theorem qP{K:W.Frag}{a b:Addr}:j3 K [.ref a,.ref b] H Q E=ij K a b H Q:=propext ⟨by rintro ⟨_,_,e,q⟩;cases e;exact q,fun q=>zE _ _ rfl q⟩
def jK(k:Str)(ts:List Str):Prop:=ts.length=2->¬ts[0]?=some k
def mT(K:W.Frag)(k:Str)(L:Addr)(st:Int)(H:Hp)(Q:VK):Prop:=∃(pre rest:List (List Str)) (ns:List Str),PtV H L (pre++(ns.map (fun n=>[k,n])++rest))/\st=(pre.length:Int)/\(pre++(ns.map (fun n=>[k,n])++rest)).length<=10000/\(∀n∈ns,bH n=true)/\(∀ts∈rest.head?,ts≠[]/\jK k ts)/\
 ∀l H',Same H H'->H l=none->H' l=some (.lst (ns.map V.str))->Q (.ref l) H'
def pB(K:W.Frag):Sp:=fun vs H Q _=>∃(k:Str)(L:Addr)(st:Int),vs=[.str k,.ref L,.int st]/\mT K k L st H Q
theorem rL{K:W.Frag}{k:Str}{L:Addr}{st:Int}:pB K [.str k,.ref L,.int st] H Q E=mT K k L st H Q:=propext ⟨by rintro ⟨_,_,_,e,q⟩;cases e;exact q,fun q=>zI _ _ _ rfl q⟩
theorem nZ(T:Txt K mg t)(d:Nat):FnOk P w K mg base CX0 (4 * d+7) t.f_115 t.e_115 ["self"] (iZ K t.C_RowReader d):=by
 have G_116:=@dY P w K mg base t T;have G_117:=(@iP P w K mg base t T d).2;refine T.d_115.F.ok sc_115 ∅ ?_;rintro cdv A outer s H vs Q E hr ⟨p,rfl,L,N,tss,ns,w,al,ss,hR,htss,hd,hd8,hm,hg,q⟩;refine ⟨_,
   (XSs.h
   (ae
    (az (i:=1) sc_115.nd rfl ll (aR T.c_RowReader.cl T.d_117 G_117 hr.m (yqv 0 vl) (aa ac ab)))
   (ae
    (aF (ak (dH (n:=0) (fz Jm hr)) (bC T.c_RowReader.cl T.d_116 G_116 hr.m (yqv 0 vl)) (aI ab) (aB _))
     (af
      b5)
     aA)
   (af
    (ay (yqv 1 vl)))))),?_⟩
 rw [show start _ [V.ref p]=[some (.ref p),none] from rfl];rwa [eK,eJ];obtain ⟨dx,hp⟩:=hR.R.ob;refine aW hp rfl ?_;have hdr:tss.drop 0=lT al ss++[]:=by rw [htss];simp
 refine zn L N tss ns w 0 0 al ss ([]) hR hdr (.inl rfl) hd Jn Jn Jn hg fun r ys g H1 sx1 hR1 hr1 hs1 hf1=>?_;obtain ⟨dx1,hp1⟩:=hR1.R.ob;refine aW hp1 rfl ?_;refine zi L N tss ns _ _ _ hR1.R fun a H2 s2 ha p1 hp1'=>?_;have s3:=s2.trans (Same.upd (o:=.lst []) hp1');have z:=cD (K:=K) (n:=0) (xs:=c7 tss (0+(lT al ss).length)) (ys:=[]) (SqL.of (Same.upd (o:=.lst []) hp1' _ _ ha)) (SqL.of upd_same);refine zA _ z (zA _ rfl ?_);rw [bN (cB hdr),if_neg Jm];exact q r ys g _ (sx1.trans (SameX.of s3)) (s3 _ _ hr1) (hs1.same s3) hf1
theorem oe(T:Txt K mg t):FnOk P w K mg base CX0 1 t.f_111 t.e_111 ["ins","names"] (j3 K):=by
 refine T.d_111.F.ok ve ∅ ?_;rintro cdv A outer s H vs Q E hr ⟨a,b,rfl,ins,ns,ha,hb,li,ln,hnd,q⟩;refine ⟨_,
   (XSs.h
   (ae
    (aF (ak c8 (av au gl T.z_len PySem.boot_len (aa (yqv 0 vl) ab)) (bM (v:=.int 4) gl T.g_MOST_INS ⟨_,rfl⟩) (aB _))
     (af
      b5)
     aA)
   (ae
    (aF (ak c8 (av au gl T.z_len PySem.boot_len (aa (yqv 1 vl) ab)) (bM (v:=.int 8) gl T.g_MOST_BOXES ⟨_,rfl⟩) (aB _))
     (af
      b5)
     aA)
   (af
    (aF (ak dB (av lK gl T.z_len PySem.boot_len (aa (aN (lL rfl) gl T.z_set boot_set (aa (yqv 1 vl) ab)) ab)) (av au gl T.z_len PySem.boot_len (aa (yqv 1 vl) ab)) (aB _))
     (af
      b5)
     aA))))),?_⟩
 rw [show start _ [V.ref a,V.ref b]=[some (.ref a),some (.ref b)] from rfl];rwa [];refine zA _ (.inl ha) ?_;rw [zq0,if_neg (by simp;omega)];refine zA _ (.inl hb) ?_;rw [zq0,if_neg (by simp;omega)];refine zF ns hb Jn fun p hp=>zA _ upd_same (zA _ (.inl ((Same.upd hp).seq hb)) ?_);rw [((eC ns).2.2).mpr hnd,zq0,if_neg Jo];exact q _ (Same.upd hp)
theorem uc(T:Txt K mg t):FnOk P w K mg base CX0 3 t.f_109 t.e_109 ["parted"] pD:=by
 have G_113:=@iN P w K mg base t T;refine T.d_109.F.ok sc_109 ∅ ?_;rintro cdv A outer s H vs Q E hr ⟨L,rfl,tss,wd,hL,w1,w8,q⟩;refine ⟨_,
   (XSs.h
   (b9
    (aF (aZ (bw (bg (eL (yqv 0 vl) (fun _=>rfl))) (bw (ak dB (av au gl T.z_len PySem.boot_len (aa (am aD (yqv 0 vl) ac) ab)) ac (aB _)) (bA (ak dB (am aD (am aD (yqv 0 vl) ac) ac) aq (aB _))))))
     (af
      b5)
     aA)
   (ae
    (az (i:=1) sc_109.nd rfl ll (am aD (am aD (yqv 0 vl) ac) ac))
   (b9
    (aF (aZ (bw (bg (bh (ap T.d_113 G_113 hr.m (aa (yqv 1 vl) ab) gl))) (bA (bg (mF i6 i6 ac (aN de gl T.z_int boot_int (aa (yqv 1 vl) ab)) (bM (v:=.int 8) gl T.g_GREATEST_WIDTH ⟨_,rfl⟩))))))
     (af
      b5)
     aA)
   (af
    (ay (aN de gl T.z_int boot_int (aa (yqv 1 vl) ab)))))))),?_⟩
 rw [show start _ [V.ref L]=[some (.ref L),none] from rfl];simp_arith! [];obtain ⟨as,hL1,hA⟩:=hL;obtain ⟨a,ha,hf⟩:=L2.Paired.getR hA (i:=0) rfl;have h0:(as.map V.ref)[0]?=some (.ref a):=by rw [da,ha];rfl
 have ne:(!(as.map V.ref).isEmpty)=true:=by
  cases as with
  |nil=>cases ha
  |cons=>rfl
 have num:=dm (i:=wd) Jn Jn;refine zA (fun σ H'=>H'=H/\σ=[some (.ref L),none]) ?_ ?_
 ·refine zA _ (.inl (zA _ (SqL.of hL1) rfl)) ?_;rw [ne,if_neg Jm];refine zB _ _ (SqL.of hL1) (aP h0) ?_;simp_arith! [];refine zA _ (.inl (SqL.of hf)) ?_;rw [if_neg (by show ¬(!decide ((2:Int)=2))=true;decide)];refine zB _ _ (SqL.of hL1) (aP h0) ?_;simp_arith! [];refine zB _ _ (SqL.of hf) rfl ?_;simp_arith! [];rw [if_neg Jm];exact trivial
 rintro σ H1 ⟨rfl,rfl⟩;refine aH ?_;simp_arith! [];refine zB _ _ (SqL.of hL1) (aP h0) ?_;simp_arith! [];refine zB _ _ (SqL.of hf) rfl (aH ?_);simp_arith! [kY];refine zA (fun σ H'=>Same H1 H'/\σ=[some (.ref L),some (.str (Str.ofString (toString wd)))]) ?_ ?_
 ·refine zC num.2.1.1 (by have z:(Str.ofString (toString wd)).length<=20:=num.2.1.2.2;omega) fun H2 s2=>?_;rw [show fE (Str.ofString (toString wd))=true from num.1,if_neg Jm];unfold i4;simp_arith! [];refine zG wd rfl Jn Jn ?_;rw [if_pos (decide_eq_true w1)];rw [if_neg (by simpa using w8)];exact s2
 rintro σ H2 ⟨s2,rfl⟩;refine aH ?_;simp_arith! [];exact zG wd rfl Jn Jn (q _ s2)
theorem ua(T:Txt K mg t):FnOk P w K mg base CX0 3 t.f_110 t.e_110 ["word","parted","start"] (pB K):=by
 have G_112:=@me P w K mg base t T;refine T.d_110.F.ok sc_110 ∅ ?_;rintro cdv A outer s H vs Q E hr ⟨k,L,st,rfl,pre,rest,ns,hL,rfl,hl,hn,hre,q⟩;refine ⟨_,
   (XSs.h
   (ae
    (az (i:=3) sc_110.nd rfl ll (aI ab))
   (b9
    (bZ PassesOwn.never rfl (bJ (bO dn (yqv 1 vl) (bK (yqv 2 vl)) cL)) (aK (i:=4) sc_110.nd rfl ll)
     (ae
      (aF (aZ (bw (ak dB (av au gl T.z_len PySem.boot_len (aa (yqv 4 vl) ab)) ac (aB _)) (bw (ak dB (am aD (yqv 4 vl) ac) (yqv 0 vl) (aB _)) (bA (bg (bh (ap T.d_112 G_112 hr.m (aa (am aD (yqv 4 vl) ac) ab) gl)))))))
       (af
        mE)
       aA)
     (af
      (aL (bv PySem.F.plainAttrs_list PySem.F.slot_list_append PySem.F.type_list_append b4 (yqv 3 vl) (aa (am aD (yqv 4 vl) ac) ab))))))
   (af
    (ay (yqv 3 vl)))))),?_⟩
 rw [show start _ [V.str k,V.ref L,V.int (pre.length:Int)]=[some (.str k),some (.ref L),some (.int pre.length),none,none] from rfl];simp_arith! [d7];intro l0 hl0;refine aH ?_;simp_arith! [d7];obtain ⟨as,hL1,hA⟩:=hL;have s0:=Same.upd (o:=.lst []) hl0;refine ⟨fun σ H'=>Same H H'/\H' l0=some (.lst (ns.map V.str))/\∃o4,σ=[some (.str k),some (.ref L),some (.int pre.length),some (.ref l0),o4],?_,?_⟩
 ·refine zA _ (SqL.of (s0 _ _ hL1)) fun ps hps=>?_;rw [em Jn,fV];have s1:=s0.trans (Same.upd (o:=.lst ((as.map V.ref).drop pre.length)) hps);have la:=hA.length;have lD:((as.map V.ref).drop pre.length).length=ns.length+rest.length:=by rw [pS,zq0,la,zq8,zq8,zq0];omega
  refine ⟨⟨_,SqL.of upd_same⟩,fb (xs:=(as.map V.ref).drop pre.length) (fun i σ H'=>i<=ns.length/\Same H H'/\H' ps=some (.lst ((as.map V.ref).drop pre.length))/\H' l0=some (.lst ((ns.take i).map V.str))/\∃o4,σ=[some (.str k),some (.ref L),some (.int pre.length),some (.ref l0),o4]) (zJ (ek _) s1 upd_same (Same.upd hps _ _ upd_same) ⟨_,rfl⟩) ?_ ?_ ?_⟩
  ·rintro i σ H' _ ⟨_,_,h,_⟩;exact SqL.of h
  ·rintro i x σ H1 hxi ⟨hi,sm,hps1,hl1,o4,rfl⟩;rw [List.getElem?_drop,da] at hxi;obtain ⟨a,ha,rfl⟩:=zq42.mp hxi;obtain ⟨ts,hts,hf⟩:=L2.Paired.get hA ha;have hf1:=sm _ _ hf;rw [pR Jn,Nat.add_sub_cancel_left] at hts;simp_arith! [d7]
   by_cases hlt:i<ns.length
   ·rw [vM (by rw [zq0];exact hlt),da,dc hlt] at hts;obtain rfl:[k,ns[i]]=ts:=Option.some.inj hts;have hnm:=hn _ (k8 hlt);have hok:=aV hnm;refine zA _ (.inl (SqL.of hf1)) ?_;rw [if_neg (by show ¬(!decide ((2:Int)=2))=true;decide)];refine zB _ _ (SqL.of hf1) rfl ?_;simp_arith! [d7];rw [if_neg Jo];refine zB _ _ (SqL.of hf1) rfl ?_;rw [d7];refine zC hok.1 (by have:=hok.2.2;omega) fun H2 s2=>zA _ rfl ?_;rw [hnm,if_neg Jm];refine aH ?_;simp_arith! [];refine ⟨.inl ⟨rfl,_,SqL.of (s2 _ _ hl1)⟩,zB _ _ (SqL.of (s2 _ _ hf1)) rfl ⟨_,zb (s2 _ _ hl1) ?_ hlt ((sm.trans s2).updM hl0) ?_ ?_ ⟨_,rfl⟩⟩⟩
    ·rw [zq0,eP,sizeLine_eq];have:=lD;rw [zq8,zq8,zq0] at hl;omega
    ·rw [aC (aw upd_same hps).symm];exact s2 _ _ hps1
    ·rw [upd_same,fW hlt,zq6];rfl
   ·have hie:i=ns.length:=by omega
    subst hie;rw [pR (by rw [zq0];omega),zq0,Nat.sub_self] at hts;have hr:=hre ts (by rw [List.head?_eq_getElem?,hts];rfl);refine zA _ (.inl (SqL.of hf1)) ?_;rw [f6] at hl1
    by_cases h2:ts.length=2
    ·rw [zq0,h2,if_neg Jm];have hl:0<ts.length:=by omega
     have h0:ts[0]?=some ts[0]:=dc hl;have hne:¬ts[0]=k:=fun z=>hr.2 h2 (by rw [h0,z]);refine zB _ _ (SqL.of hf1) (aP (j:=0) (by rw [da,h0];rfl)) ?_;simp_arith! [];rw [if_pos (by simpa using hne),if_pos trivial];exact zC sm hl1 ⟨_,rfl⟩
    ·rw [zq0,if_pos (by simp;omega),if_pos trivial];exact zC sm hl1 ⟨_,rfl⟩
  ·rintro σ H1 ⟨hi,sm,hps1,hl1,o4,rfl⟩;have hie:((as.map V.ref).drop pre.length).length=ns.length:=by omega
   rw [hie,f6] at hl1;exact zC sm hl1 ⟨_,rfl⟩
 rintro σ H1 ⟨s1,hl1,o4,rfl⟩;refine aH ?_;simp_arith! [];exact q l0 H1 s1 hl0 hl1
def kj(K:W.Frag)(C:Addr)(d:Nat)(l:Addr)(H:Hp)(Q:VK):Prop:=∃(wd:Int)(ins oth:List Str)(al:Bool)(ss:List Stm),H l=some (.lst (((hT wd ins oth++lT al ss).map jn).map V.str))/\1<=wd/\NW (ins++oth) wd/\ins.length<=4/\oth.length<=4/\(ins++oth).Nodup/\aO ss<d/\aO ss<=8/\aE ss<=40/\bq (ins++oth) wd ss/\
 ∀p a b r xs f H',Same H H'->H p=none->ProgAt K C H' p wd ins oth ss a b r xs f->Q (.ref p) H'
def lr(K:W.Frag)(C:Addr)(d:Nat):Sp:=fun vs H Q _=>∃l:Addr,vs=[.ref l]/\kj K C d l H Q
theorem oX{K:W.Frag}{C l:Addr}{d:Nat}{H:Hp}{Q:VK}{E:XK}:lr K C d [.ref l] H Q E=kj K C d l H Q:=propext ⟨by rintro ⟨_,e,q⟩;cases e;exact q,fun q=>zA _ rfl q⟩
theorem fw{al:Bool}{ss:List Stm}{k:Str}(h1:¬("tell":Str)=k) (h2:¬("if":Str)=k) (h3:¬("while":Str)=k):∀ts∈(lT al ss).head?,ts≠[]/\jK k ts:=by
 intro ts ht
 cases ss with
 |nil=>rw [lT] at ht;cases ht
 |cons s r=>
  rw [lT] at ht
  cases s with
  |deed d=>
   rw [sT] at ht;obtain rfl:dT d=ts:=Option.some.inj ht
   cases d with
   |tell o=>exact ⟨by simp [dT],fun _ z=>h1 (Option.some.inj z)⟩
   |copy n o=>exact ⟨by simp [dT],fun z=>by simp [dT] at z⟩
   |op k n o p=>exact ⟨by simp [dT],fun z=>by simp [dT] at z⟩
  |ifs n a b=>
   rw [sT] at ht;obtain rfl:[("if":Str),n]=ts:=Option.some.inj ht;exact ⟨Jo,fun _ z=>h2 (Option.some.inj z)⟩
  |whl n a=>rw [sT] at ht;obtain rfl:[("while":Str),n]=ts:=Option.some.inj ht;exact ⟨Jo,fun _ z=>h3 (Option.some.inj z)⟩
theorem lH{al:Bool}{ss:List Stm}{oth:List Str}:∀ts∈(oth.map (fun n=>[("box":Str),n])++lT al ss).head?,ts≠[]/\jK "in" ts:=by
 cases oth with
 |nil=>exact fw Jk Jk Jk
 |cons n r=>intro ts ht;obtain rfl:[("box":Str),n]=ts:=Option.some.inj ht;exact ⟨Jo,fun _ z=>absurd (Option.some.inj z) Jk⟩
theorem eQ{α β:Type}{F:α->β->Prop}{a:α}{b:β}(hf:F a b):∀{l₁:List α} {l₂:List β},Paired F l₁ l₂->Paired F (l₁++[a]) (l₂++[b])
 |_,_,.nil=>.cons hf .nil
 |_,_,.cons h t=>.cons h (eQ hf t)
theorem fq{α β:Type}{F G:α->β->Prop}:∀{l₁:List α} {l₂:List β},Paired F l₁ l₂->(∀a∈l₁,∀b∈l₂,F a b->G a b)->Paired G l₁ l₂
 |_,_,.nil,_=>.nil
 |_,_,.cons h t,hi=>.cons (hi _ (zq4 ..) _ (zq4 ..) h) (fq t fun a ha b hb=>hi a (zq2 _ ha) b (zq2 _ hb))
theorem oS{C p a0 b0 r0:Addr}{d:Nat}{wd:Int}{H:Hp}{Q:VK}{E:XK}:lg K C d [.ref p,.int wd,.ref a0,.ref b0,.ref r0] H Q E=ke K C d p a0 b0 r0 wd H Q:=propext ⟨by rintro ⟨_,_,_,_,_,e,q⟩;cases e;exact q,fun q=>zd _ _ _ _ _ ⟨rfl,q⟩⟩
theorem qw(T:Txt K mg t)(d:Nat):FnOk P w K mg base CX0 (4 * d+8) t.f_108 t.e_108 ["lines"] (lr K t.C_Program d):=by
 have G_109:=@uc P w K mg base t T;have G_110:=@ua P w K mg base t T;have G_111:=@oe P w K mg base t T;have G_114:=@oq P w K mg base t T;have G_115:=@nZ P w K mg base t T d;have G_100:=@kL P w K mg base t T d;refine T.d_108.F.ok sc_108 ∅ ?_;rintro cdv A outer s H vs Q E hr ⟨l,rfl,wd,ins,oth,al,ss,hl,w1,hN,li,lo,hnd,hd,hd8,hm,hg,q⟩;refine ⟨_,
   (XSs.h
   (ae
    (eW (i:=1) sc_108.nd rfl ll rfl Jl (tns:=["line"]) (cns:=[]) (ci:=[]) rfl (CompSc.of Jl) (bJ (yqv 0 vl)) (fun _=>(aK (i:=1) (show List.Nodup [(".0":Str),("line":Str)] by decide +kernel) rfl ll (Or.inr Jl))) (fun _=>cg) (fun _=>(bv PySem.F.plainAttrs_str PySem.F.slot_str_split PySem.F.type_str_split nQ (yqv 1 vl) (aa aq ab))))
   (ae
    (az (i:=2) sc_108.nd rfl ll (ap T.d_109 G_109 hr.m (aa (yqv 1 vl) ab) gl))
   (ae
    (az (i:=3) sc_108.nd rfl ll (ap T.d_110 G_110 hr.m (aa aq (aa (yqv 1 vl) (aa ac ab))) gl))
   (ae
    (az (i:=4) sc_108.nd rfl ll (ap T.d_110 G_110 hr.m (aa aq (aa (yqv 1 vl) (aa (aj ba ac (av au gl T.z_len PySem.boot_len (aa (yqv 3 vl) ab))) ab))) gl))
   (ae
    (az (i:=5) sc_108.nd rfl ll (aj br (yqv 3 vl) (yqv 4 vl)))
   (ae
    (aL (ap T.d_111 G_111 hr.m (aa (yqv 3 vl) (aa (yqv 5 vl) ab)) gl))
   (ae
    (az (i:=6) sc_108.nd rfl ll (bC T.c_RowReader.cl T.d_115 G_115 hr.m (eM T.c_RowReader T.d_114 G_114 hr.m (aa (bO dn (yqv 1 vl) (bK (aj ba ac (av au gl T.z_len PySem.boot_len (aa (yqv 5 vl) ab)))) cL) (aa (yqv 2 vl) (aa (yqv 5 vl) ab))) gl)))
   (af
    (ay (eM T.c_Program T.d_100 G_100 hr.m (aa (yqv 2 vl) (aa (yqv 3 vl) (aa (yqv 4 vl) (aa (yqv 6 vl) ab)))) gl))))))))))),?_⟩
 rw [show start _ [V.ref l]=[some (.ref l),none,none,none,none,none,none] from rfl];simp_arith! [];have hok:∀ts∈hT wd ins oth++lT al ss,okL ts:=fun ts ht=>by
  rcases zq10.mp ht with z | z
  ·exact wk hN.2.1 hN.2.2 hN.1 ts z
  ·exact iD hN.1 hN.2.2 hg ts z
 have hT1:hT wd ins oth++lT al ss=[("width":Str),toString wd]::(ins.map (fun n=>[("in":Str),n])++(oth.map (fun n=>[("box":Str),n])++lT al ss)):=by unfold hT;rw [k9,fX]
 have hlen:(hT wd ins oth++lT al ss).length<=200:=by have:=d0 (al:=al) ss;rw [hT1,cj,zq8,zq8,zq0,zq0];omega
 rw [hT1] at hlen hok hl;refine ⟨⟨_,SqL.of hl⟩,fun acc hacc bk=>?_⟩;generalize hW:[("width":Str),toString wd]::(ins.map (fun n=>[("in":Str),n])++(oth.map (fun n=>[("box":Str),n])++lT al ss))=tss at hl hlen hok;refine gL (xs:=(tss.map jn).map V.str) (fun i ys H'=>Same H H'/\H' acc=some (.lst ys)/\ys.length=i/\∃as:List Addr,ys=as.map V.ref/\(∀c∈as,c≠acc)/\Paired (fun a ts=>H' a=some (.lst (ts.map V.str))) as (tss.take i)) ?_ ?_ ?_ ?_
 ·exact zH (Same.upd hacc) upd_same rfl (zF ([]) rfl (fun c hc=>(by cases hc)) .nil)
 ·intro i ys H' _ h;exact SqL.of (h.1 _ _ hl)
 ·rintro i x ys H1 os hxi ho ⟨sm,hacc1,ly,as,rfl,hna,hA⟩
  match os,ho with
  | [o],_=>
   rw [da,da] at hxi;obtain ⟨j,hj,rfl⟩:=zq42.mp hxi;obtain ⟨ts,hts,rfl⟩:=zq42.mp hj;have hi:i<tss.length:=(zq19.mp hts).1;have hse:tss[i]=ts:=(zq19.mp hts).2;have hk:=hok ts (dN hts);rwa [];refine ⟨zA ([some (.str (jn ts))]) rfl rfl,?_⟩;rw [if_pos trivial];refine zP (jn ts) (" ") rfl rfl Jk (by have:=tT hk;omega) fun l1 hl1=>?_;rw [nH hk];have s1:=Same.upd (o:=.lst (ts.map V.str)) hl1;have na1:l1≠acc:=(aw hacc1 hl1).symm;refine zT (s1 _ _ hacc1) (by rw [sizeLine_eq];omega) ((sm.trans s1).updM hacc) upd_same (by simp [ly]) (zF (as++[l1]) (by rw [zq6];rfl) (fun c hc=>?_) ?_)
   ·rcases zq10.mp hc with z | z
    ·exact hna c z
    ·rw [zq9.mp z];exact na1
   ·rw [fW hi,hse];refine eQ (by rw [aC na1];exact upd_same) (fq hA fun a ha ts _ e=>?_);rw [aC (hna a ha)];exact s1 _ _ e
 rintro ys H1 ⟨s1,hacc1,ly,as,rfl,hna,hA⟩;rw [zq0,zq0,f6] at hA;have hP1:PtV H1 acc tss:=zA as hacc1 hA
 have lA:=hA.length;refine aH ?_;simp_arith! [xl];refine zD _ wd (by rw [hW];exact hP1) w1 hN.2.2 fun H2 s2=>aH ?_;simp_arith! [rL];refine zM ([[("width":Str),toString wd]]) (oth.map (fun n=>[("box":Str),n])++lT al ss) ins (by rw [show [[("width":Str),toString wd]]++(ins.map (fun n=>[("in":Str),n])++(oth.map (fun n=>[("box":Str),n])++lT al ss))=tss from hW];exact hP1.mv fun c xs e=>s2 _ _ e) rfl (by rw [show [[("width":Str),toString wd]]++(ins.map (fun n=>[("in":Str),n])++(oth.map (fun n=>[("box":Str),n])++lT al ss))=tss from hW];omega) (fun n hn=>hN.1 n (d9 _ hn)) lH fun pi H3 s3 hpi hei=>aH ?_;simp_arith! [rL];have s03:=(s1.trans s2).trans s3;have hP3:PtV H3 acc tss:=hP1.mv fun c xs e=>s3 _ _ (s2 _ _ e);refine zA _ (.inl (SqL.of hei)) ?_;have hW2:([("width":Str),toString wd]::ins.map (fun n=>[("in":Str),n]))++(oth.map (fun n=>[("box":Str),n])++lT al ss)=tss:=by rw [k9,<- hW]
 refine zM ([("width":Str),toString wd]::ins.map (fun n=>[("in":Str),n])) (lT al ss) oth (by rw [hW2];exact hP3) (by simp only [List.length_map,List.length_cons];omega) (by rw [hW2];omega) (fun n hn=>hN.1 n (cx _ hn)) (fw Jk Jk Jk) fun po H4 s4 hpo heo=>aH ?_;simp_arith! [];have hei4:=s4 _ _ hei;refine zD _ _ hei4 heo (by rw [zq0,zq0,sizeLine_eq];omega) fun pn hpn=>aH ?_;have s5:=Same.upd (o:=.lst (ins.map V.str++oth.map V.str)) hpn;have hen:upd H4 pn (.lst (ins.map V.str++oth.map V.str)) pn=some (.lst ((ins++oth).map V.str)):=by rw [upd_same,zq6]
 have s05:=(s03.trans s4).trans s5;have hei5:=s5 _ _ hei4;have heo5:=s5 _ _ heo;have hP5:PtV (upd H4 pn (.lst (ins.map V.str++oth.map V.str))) acc tss:=hP3.mv fun c xs e=>s5 _ _ (s4 _ _ e);generalize upd H4 pn (.lst (ins.map V.str++oth.map V.str))=H5 at s5 hen s05 hei5 heo5 hP5 ⊢;clear s5 hpn s4 hei4 heo hei hP3 s03 s3 s2 hP1 hpo hpi;simp_arith! [qP];refine zZ ins (ins++oth) (SqL.of hei5) (SqL.of hen) li (by rw [zq8];omega) hnd fun H6 s6=>aH ?_;simp_arith! [];have hen6:=s6 _ _ hen;obtain ⟨as6,hL6,hA6⟩:PtV H6 acc tss:=hP5.mv fun c xs e=>s6 _ _ e;refine zA _ (.inl (SqL.of hen6)) ?_;refine zA _ (SqL.of hL6) fun ps hps=>?_;have lN:(ins++oth).length=ins.length+oth.length:=zq8;rw [em Jn,show (1+((List.map V.str (ins++oth)).length:Int)).toNat=1+(ins.length+oth.length) by rw [zq0,lN];omega];have s7:=Same.upd (o:=.lst ((as6.map V.ref).drop (1+(ins.length+oth.length)))) hps;have hW3:tss.drop (1+(ins.length+oth.length))=lT al ss:=by rw [<- hW,show [("width":Str),toString wd]::(ins.map (fun n=>[("in":Str),n])++(oth.map (fun n=>[("box":Str),n])++lT al ss))=([[("width":Str),toString wd]]++(ins.map (fun n=>[("in":Str),n])++oth.map (fun n=>[("box":Str),n])))++lT al ss by simp];refine List.drop_left' ?_;simp only [List.length_append,List.length_map,List.length_cons,List.length_nil]
 have hP7:PtV (upd H6 ps (.lst ((as6.map V.ref).drop (1+(ins.length+oth.length))))) ps (lT al ss):=by refine zA (as6.drop (1+(ins.length+oth.length))) (by rw [upd_same,vX]) ?_;rw [<- hW3];exact (L2.Paired.drop _ hA6).mono fun a ts e=>s7 _ _ e
 have s07:=(s05.trans s6).trans s7;have hen7:=s7 _ _ hen6;have hei7:=s7 _ _ (s6 _ _ hei5);have heo7:=s7 _ _ (s6 _ _ heo5);generalize upd H6 ps (.lst ((as6.map V.ref).drop (1+(ins.length+oth.length))))=H7 at s7 hP7 s07 hen7 hei7 heo7 ⊢;clear s7 hps hA6 hL6 hen6 s6 hP5 heo5 hei5 hen s05 hacc1 hA s1;intro px dx hpx hdx hne;simp_arith! [qQ];have s8:Same H7 (upd (upd H7 dx (.own px)) px (.ins t.C_RowReader dx [])):=(Same.upd hdx).updM hpx;refine zM dx (lT al ss) (ins++oth) upd_same (hP7.mv fun c xs e=>s8 _ _ e) (s8 _ _ hen7) hN.2.1 hN.2.2 fun H9 sx9 hR9=>⟨rfl,?_⟩;have s9:Same H7 H9:=fun c' o' e=>sx9 c' o' (s8 _ _ e) (aw e hpx);obtain ⟨dx9,hp9⟩:=hR9.ob;refine aW hp9 rfl ?_;rw [qG];refine zf ps pn (lT al ss) (ins++oth) wd al ss ⟨hR9,hN⟩ rfl hd hd8 hm hg fun r ys g H10 sx10 hr10 hs10 hf10=>aH ?_;have s10:Same H7 H10:=fun c' o' e=>sx10 c' o' (s9 _ _ e) (aw e hpx);have s010:=s07.trans s10;have hei10:=s10 _ _ hei7;have heo10:=s10 _ _ heo7;clear sx10 sx9 hR9 s8 s9;simp_arith! [];intro pp dp hpp hdp hnp;simp_arith! [oS];have s11:Same H10 (upd (upd H10 dp (.own pp)) pp (.ins t.C_Program dp [])):=(Same.upd hdp).updM hpp;refine zq dp ins oth ys ss g (zk upd_same (s11 _ _ hei10) (s11 _ _ heo10) (s11 _ _ hr10) (hs10.same s11) hd Jn Jn Jn fun a' b' r' ys' g' H12 sx hPr _ _=>⟨rfl,?_⟩);have s12:Same H10 H12:=fun c' o' e=>sx c' o' (s11 _ _ e) (aw e hpp);exact q pp a' b' r' ys' g' H12 (s010.trans s12) (s010.free hpp) hPr
variable {H H':Hp}
def SameF(fp:List Addr)(H H':Hp):Prop:=∀c o,H c=some o->c∉fp->H' c=some o
theorem SameF.refl{fp:List Addr}:SameF fp H H:=fun _ _ e _=>e
theorem SameF.of{fp:List Addr}(s:Same H H'):SameF fp H H':=fun c o e _=>s c o e
theorem SameF.trans{fp:List Addr}{H1 H2:Hp}(a:SameF fp H H1)(b:SameF fp H1 H2):SameF fp H H2:=fun c o e n=>b c o (a c o e n) n
theorem SameF.mono{fp gp:List Addr}(a:SameF fp H H')(h:∀c∈fp,c∈gp):SameF gp H H':=fun c o e n=>a c o e fun z=>n (h c z)
theorem SameF.upd{fp:List Addr}{p:Addr}{o:HO}(a:SameF fp H H')(h:p∈fp):SameF fp H (L2.upd H' p o):=fun c u e n=>by rw [aC (fun z=>n (by rw [z];exact h))];exact a c u e n
theorem SameF.ts{fp:List Addr}(a:SameF fp H H')(h:∀c∈fp,∃zs,H c=some (.lst zs)):TSame H H':=
 ⟨fun b xs e=>a b _ e fun z=>(by obtain ⟨zs,hz⟩:=h b z;rw [hz] at e;cases e),fun b o u e=>a b _ e fun z=>(by obtain ⟨zs,hz⟩:=h b z;rw [hz] at e;cases e)⟩
theorem SameF.kept{fp gp:List Addr}(a:SameF fp H H')(h:∀c∈gp,c∉fp):Kept gp H H':=fun c hc o e=>a c o e (h c hc)
def kd(K:W.Frag)(d:Nat)(a:Addr)(H:Hp)(Q:VK):Prop:=∃(xs:List V)(ss:List Stm)(f:List Addr),H a=some (.lst xs)/\StmsV K H xs ss f/\(a::f).Nodup/\aO ss<d/\aE ss<=1000/\
 ∀H',SameF (a::f) H H'->H' a=some (.lst [])->Q .non H'
def fg(K:W.Frag)(d:Nat):Sp:=fun vs H Q _=>∃a:Addr,vs=[.ref a]/\kd K d a H Q
theorem dI{K:W.Frag}{d:Nat}{a:Addr}{Q:VK}{E:XK}:fg K d [.ref a] H Q E=kd K d a H Q:=propext ⟨by rintro ⟨_,e,q⟩;cases e;exact q,fun q=>zA _ rfl q⟩
theorem lR(T:Txt K mg t)(d:Nat)(G_138:FnOk P w K mg base CX0 (d+1) t.f_138 t.e_138 ["_law_rows"] (fg K d)):FnOk P w K mg base CX0 (d+2) t.f_138 t.e_138 ["_law_rows"] (fg K (d+1)):=by
 refine T.d_138.F.ok sc_138 ∅ ?_;rintro cdv A outer s H vs Q E hr ⟨a,rfl,xs,ss,f,ha,hx,hnd,hd,hm,q⟩;refine ⟨_,
   (XSs.h
   (ae
    (bZ PassesOwn.never rfl (bJ (yqv 0 vl)) (aK (i:=1) sc_138.nd rfl ll)
     (af
      (aF (ak eD (am aJ (yqv 1 vl) ac) (aX (cm Jp)) rfl)
       (ae
        (aL (ap T.d_138 G_138 hr.m (aa (am aJ (yqv 1 vl) ac) ab) gl))
       (af
        (aL (bv PySem.F.plainAttrs_list PySem.F.slot_list_append PySem.F.type_list_append b4 (am aJ (yqv 1 vl) ac) (aa (aX (cm Jp)) ab)))))
       aA)))
   (af
    (aL (fk PySem.F.plainAttrs_list PySem.F.slot_list_clear PySem.F.type_list_clear iJ (yqv 0 vl)))))),?_⟩
 rw [show start _ [V.ref a]=[some (.ref a),none] from rfl];simp_arith! [dI];have naf:=(zq16.mp hnd).1;have nf:=(zq16.mp hnd).2;have lx:=hx.length;refine ⟨⟨_,SqL.of ha⟩,fb (xs:=xs) (fun i σ H'=>(∃f1 f2,f=f1++f2/\SameF f1 H H'/\StmsV K H (xs.drop i) (ss.drop i) f2)/\∃o1,σ=[some (.ref a),o1]) ⟨zB ([]) f rfl SameF.refl hx,_,rfl⟩ ?_ ?_ ?_⟩
 ·rintro i σ H' _ ⟨⟨f1,f2,e,sf,_⟩,_⟩;exact SqL.of (sf _ _ ha fun z=>naf (by rw [e];exact d9 _ z))
 ·rintro i x σ H1 hxi ⟨⟨f1,f2,e,sf,hr2⟩,o1,rfl⟩;have hi:i<xs.length:=(zq19.mp hxi).1;have hxe:xs[i]=x:=(zq19.mp hxi).2;have hi2:i<ss.length:=by omega
  rw [vV hi,vV hi2,hxe] at hr2;have hds:=ck (k8 hi2);have hms:=d5 (k8 hi2);generalize ss[i]=st at hr2 hds hms;obtain ⟨fi,f3,rfl,hsv,hrest⟩:∃fi f3,f2=fi++f3/\StmV K H x st fi/\StmsV K H (xs.drop (i+1)) (ss.drop (i+1)) f3:=by
   cases hr2 with
   |cons h1 h2=>exact zB _ _ rfl h1 h2
  have tr1:∀c∈f1,∃zs,H c=some (.lst zs):=fun c hc=>hx.tracked c (by rw [e];exact d9 _ hc);have dj:∀c∈fi,c∉f1:=fun c hc z=>by rw [e,vQ] at nf;exact nf.2.2 c z c (d9 _ hc) rfl
  have nfi:fi.Nodup:=by rw [e] at nf;exact (nf.sublist (List.sublist_append_right _ _)).sublist (mI _ _)
  have ts1:=sf.ts tr1;have hsv1:=hsv.keep ts1 (sf.kept dj);have done:∀H2,SameF fi H1 H2->(∃g1 g2,f=g1++g2/\SameF g1 H H2/\StmsV K H (xs.drop (i+1)) (ss.drop (i+1)) g2):=fun H2 s2=>zB (f1++fi) f3 (by rw [e,fX]) ((sf.mono fun c hc=>d9 _ hc).trans (s2.mono fun c hc=>cx _ hc)) hrest
  clear hr2 hsv sf dj tr1 ts1 hrest
  cases hsv1 with
  | @deed q0 dd hf hq=>
   obtain ⟨k0,hk0,hin⟩:=n6 hf;simp_arith! [dI];refine zB _ _ hq hk0 fun p1 hp1=>zG _ (.inr (SqT.of upd_same)) rfl rfl ?_;rw [hin,if_neg zq3];exact ⟨done _ (SameF.of (Same.upd hp1)),_,rfl⟩
  | @ifs q0 a1 b1 n xs1 ys1 ones others f4 g4 hq ha1 hb1 h1 h2=>
   simp only [Stm.deep,Stm.many] at hds hms;simp_arith! [dI];refine zB _ _ hq rfl fun p1 hp1=>zG _ (.inr (SqT.of upd_same)) rfl rfl ?_;rw [if_pos Jk];have s2:=Same.upd (o:=.tup [V.str (Str.ofString "if"),V.str (Str.ofString "while")]) hp1;refine zB _ _ (s2.seqT hq) rfl ?_;rw [dI];refine zM xs1 ones f4 (s2 _ _ ha1) (h1.same s2) (nfi.sublist (.cons_cons _ (.cons _ (mI _ _)))) Jn Jn fun H3 sf3 ha3=>aH ?_;have tr3:∀c∈a1::f4,∃zs,upd H1 p1 (.tup [V.str (Str.ofString "if"),V.str (Str.ofString "while")]) c=some (.lst zs):=fun c hc=>by
    rcases zq1.mp hc with z | z
    ·rw [z];exact ⟨_,s2 _ _ ha1⟩
    ·exact (h1.same s2).tracked c z
   have hq3:=(sf3.ts tr3).seqT (s2.seqT hq);simp_arith! [];refine zD _ _ hq3 rfl (.inl ⟨rfl,_,SqL.of ha3⟩) fun p4 hp4=>?_;have s4:=Same.upd (o:=.tup [V.str (Str.ofString "tell"),V.int 0]) hp4;refine zM _ _ _ rfl rfl (s4 _ _ ha3) (by rw [sizeLine_eq];exact Nat.zero_lt_succ _) (done _ ?_) ⟨_,rfl⟩;refine SameF.upd ?_ (zq4 ..);refine (SameF.of s2).trans ((sf3.mono fun c hc=>?_).trans (SameF.of s4));rcases zq1.mp hc with z | z
   ·rw [z];exact zq4 ..
   ·exact zq2 _ (zq2 _ (d9 _ z))
  | @whl q0 a1 n xs1 rows f4 hq ha1 h1=>
   simp only [Stm.deep,Stm.many] at hds hms;simp_arith! [dI];refine zB _ _ hq rfl fun p1 hp1=>zG _ (.inr (SqT.of upd_same)) rfl rfl ?_;rw [if_pos Jk];have s2:=Same.upd (o:=.tup [V.str (Str.ofString "if"),V.str (Str.ofString "while")]) hp1;refine zB _ _ (s2.seqT hq) rfl ?_;rw [dI];refine zM xs1 rows f4 (s2 _ _ ha1) (h1.same s2) nfi Jn Jn fun H3 sf3 ha3=>aH ?_;have tr3:∀c∈a1::f4,∃zs,upd H1 p1 (.tup [V.str (Str.ofString "if"),V.str (Str.ofString "while")]) c=some (.lst zs):=fun c hc=>by
    rcases zq1.mp hc with z | z
    ·rw [z];exact ⟨_,s2 _ _ ha1⟩
    ·exact (h1.same s2).tracked c z
   have hq3:=(sf3.ts tr3).seqT (s2.seqT hq);simp_arith! [];refine zD _ _ hq3 rfl (.inl ⟨rfl,_,SqL.of ha3⟩) fun p4 hp4=>?_;have s4:=Same.upd (o:=.tup [V.str (Str.ofString "tell"),V.int 0]) hp4;refine zM _ _ _ rfl rfl (s4 _ _ ha3) (by rw [sizeLine_eq];exact Nat.zero_lt_succ _) (done _ ?_) ⟨_,rfl⟩;refine SameF.upd ?_ (zq4 ..);refine (SameF.of s2).trans ((sf3.mono fun c hc=>?_).trans (SameF.of s4));rcases zq1.mp hc with z | z
   ·rw [z];exact zq4 ..
   ·exact zq2 _ z
 ·rintro σ H1 ⟨⟨f1,f2,e,sf,_⟩,o1,rfl⟩;refine aH ?_;simp_arith! [];have ha1:=sf _ _ ha fun z=>naf (by rw [e];exact d9 _ z);refine ⟨.inl ⟨rfl,_,SqL.of ha1⟩,zD _ _ rfl rfl ha1 (q _ ?_ upd_same)⟩;refine SameF.upd (sf.mono fun c hc=>?_) (zq4 ..);rw [e];exact zq2 _ (d9 _ hc)
theorem kK(T:Txt K mg t):∀d,FnOk P w K mg base CX0 (d+1) t.f_138 t.e_138 ["_law_rows"] (fg K d)
 |0=>⟨fun vs H Q E h=>by obtain ⟨_,_,_,_,_,_,_,_,h,_⟩:=h;omega,fun _ _ _ _ _ _ _ _ _ _ _ _ _ h=>by obtain ⟨_,_,_,_,_,_,_,_,h,_⟩:=h;omega⟩
 |d+1=>lR T d (kK T d)
def ig(K:W.Frag)(C:Addr)(d:Nat)(p:Addr)(wd:Int)(ai ao ar:Addr)(H:Hp)(Q:VK):Prop:=∃(ins oth:List Str)(ss:List Stm)(a b r:Addr)(xs:List V)(f:List Addr)(ys:List V)(g:List Addr),ProgAt K C H p wd ins oth ss a b r xs f/\H ai=some (.lst (ins.map V.str))/\H ao=some (.lst (oth.map V.str))/\H ar=some (.lst ys)/\StmsV K H ys ss g/\aO ss<d/\aE ss<=1000/\ins.length<=1000/\oth.length<=1000/\
 ∀H',Same H H'->Q (.bl true) H'
def iY(K:W.Frag)(C:Addr)(d:Nat):Sp:=fun vs H Q _=>∃(p:Addr)(wd:Int)(ai ao ar:Addr),vs=[.ref p,.int wd,.ref ai,.ref ao,.ref ar]/\ig K C d p wd ai ao ar H Q
theorem hU{K:W.Frag}{C p ai ao ar:Addr}{d:Nat}{wd:Int}{H:Hp}{Q:VK}{E:XK}:iY K C d [.ref p,.int wd,.ref ai,.ref ao,.ref ar] H Q E=ig K C d p wd ai ao ar H Q:=propext ⟨by rintro ⟨_,_,_,_,_,e,q⟩;cases e;exact q,fun q=>zd _ _ _ _ _ ⟨rfl,q⟩⟩
theorem qS{x:V}{H:Hp}{Q:VK}{E:XK}:ja K [x] H Q E=∃k:String,dy K H x k/\Q (.bl (decide (k="int"))) H:=propext ⟨by rintro ⟨_,k,e,q⟩;cases e;exact ⟨k,q⟩,fun ⟨k,q⟩=>zE _ k rfl q⟩
theorem nY(T:Txt K mg t)(d:Nat):FnOk P w K mg base CX0 (d+2) t.f_137 t.e_137 ["_law_found","_law_width","_law_ins","_law_others","_law_rows"] (iY K t.C_Program d):=by
 have G_126:=@ow P w K mg base t T;have G_136:=@jE P w K mg base t T d;refine T.d_137.F.ok vv ∅ ?_;rintro cdv A outer s H vs Q E hr ⟨p,wd,ai,ao,ar,rfl,ins,oth,ss,a,b,r,xs,f,ys,g,hP,hai,hao,har,hs,hd,hm,li,lo,q⟩;have hu:=ny hr;refine ⟨_,
   (XSs.h
   (ae
    (aF (aZ (bw (bg (bh (av lJ gl T.z_isinstance boot_isinstance (aa (yqv 0 vl) (aa (bM (v:=.ref t.C_Program) gl T.c_Program.M rfl) ab))))) (bw (bg (bh (ap T.d_126 G_126 hr.m (aa (aU (yqv 0 vl) rfl) ab) gl))) (bA (ak dB (aU (yqv 0 vl) rfl) (yqv 1 vl) (aB _))))))
     (af
      (ay bT))
     aA)
   (ae
    (aF (aZ (bw (bg (bh (av bQ gl T.z_isinstance boot_isinstance (aa (aU (yqv 0 vl) rfl) (aa (bV (v:=.ty "list") gl T.z_list boot_list rfl) ab))))) (bA (bg (bh (av bQ gl T.z_isinstance boot_isinstance (aa (aU (yqv 0 vl) rfl) (aa (bV (v:=.ty "list") gl T.z_list boot_list rfl) ab))))))))
     (af
      (ay bT))
     aA)
   (af
    (ay (fj (cv (jI (n:=0) (fz Jm hr)) (aU (yqv 0 vl) rfl) (yqv 2 vl) (aB _)) (fj (cv (jI (n:=0) (fz Jm hr)) (aU (yqv 0 vl) rfl) (aj br (yqv 2 vl) (yqv 3 vl)) (aB _)) (fm (ap T.d_136 G_136 hr.m (aa (aU (yqv 0 vl) rfl) (aa (yqv 4 vl) ab)) gl))))))))),?_⟩
 rw [show start _ [V.ref p,V.int wd,V.ref ai,V.ref ao,V.ref ar]=[some (.ref p),some (.int wd),some (.ref ai),some (.ref ao),some (.ref ar)] from rfl];obtain ⟨dx,hob⟩:=hP.ob;simp_arith! [qS];refine zL p t.C_Program dx _ (zC rfl hob (zA _ rfl ?_));rw [if_neg Jm];refine cn hob T.c_Program.cl T.n_Program_width rfl ?_;refine zA ("int") .int ?_;rw [if_neg Jm];refine cn hob T.c_Program.cl T.n_Program_width rfl ?_;refine ⟨rfl,zA _ rfl ?_⟩;rw [decide_eq_true rfl,if_neg Jm];refine aH ?_;simp_arith! [];refine cn hob T.c_Program.cl T.n_Program_ins rfl ?_;refine cZ (SqL.of hP.ia) (zA _ rfl ?_);rw [if_neg Jm];refine cn hob T.c_Program.cl T.n_Program_boxes rfl ?_;refine cZ (SqL.of hP.bx) (zA _ rfl ?_);rw [if_neg Jm];refine aH ?_;simp_arith! [];refine cn hob T.c_Program.cl T.n_Program_ins rfl ?_;have z1:=cD (K:=K) (H:=H) (n:=0) (xs:=ins) (ys:=ins) (SqL.of hP.ia) (SqL.of hai);rw [decide_eq_true rfl] at z1;refine zA true z1 (zA _ rfl ?_);rw [if_pos rfl];refine cn hob T.c_Program.cl T.n_Program_boxes rfl ?_;refine zD _ _ hai hao (by rw [zq0,zq0,sizeLine_eq];omega) fun p1 hp1=>?_;have s1:=Same.upd (o:=.lst (ins.map V.str++oth.map V.str)) hp1;have z2:=cD (K:=K) (H:=upd H p1 (.lst (ins.map V.str++oth.map V.str))) (n:=0) (xs:=ins++oth) (ys:=ins++oth) (SqL.of (s1 _ _ hP.bx)) (SqL.of (by rw [upd_same,zq6]));rw [decide_eq_true rfl] at z2;refine zA true z2 (zA _ rfl ?_);rw [if_pos rfl];refine cn (s1 _ _ hob) T.c_Program.cl T.n_Program_rows rfl ?_;rw [iT];exact zO ss xs ys f g (s1 _ _ hP.rs) (s1 _ _ har) (hP.st.same s1) (hs.same s1) hd hm fun H2 s2=>q _ (s1.trans s2)
theorem ProgAt.keepF{K:W.Frag}{C:Addr}{H H':Hp}{p:Addr}{wd:Int}{ins oth:List Str}{ss:List Stm}{a b r:Addr}{xs:List V}{f F:List Addr}(h:ProgAt K C H p wd ins oth ss a b r xs f)(sf:SameF F H H')(hF:∀c∈F,∃zs,H c=some (.lst zs))(hn:∀c∈a::b::r::f,c∉F):ProgAt K C H' p wd ins oth ss a b r xs f:=by obtain ⟨dx,hob⟩:=h.ob;refine ⟨⟨dx,sf _ _ hob fun z=>by obtain ⟨zs,hz⟩:=hF p z;rw [hob] at hz;cases hz⟩,sf _ _ h.ia (hn a Jo),sf _ _ h.bx (hn b Jo),sf _ _ h.rs (hn r Jo),h.st.keep (sf.ts hF) (sf.kept fun c hc=>hn c (by simp [hc]))⟩
theorem mt{K:W.Frag}{H:Hp}{p q l0 l1 a b:Addr}{xs ys:List Str}(hp:H p=some (.lst [.ref l0,.ref l1]))(hq:H q=some (.lst [.ref a,.ref b]))(h0:H l0=some (.lst (xs.map V.str)))(h1:H l1=some (.lst (ys.map V.str)))(ha:H a=some (.lst (xs.map V.str)))(hb:H b=some (.lst (ys.map V.str)))(n0:l0≠a)(n1:l1≠b):Rq K H 1 (.ref p) (.ref q) true:=by
 have z0:=dS (K:=K) (n:=0) n0 (SqL.of h0) (SqL.of ha);have z1:=dS (K:=K) (n:=0) n1 (SqL.of h1) (SqL.of hb);rw [decide_eq_true rfl] at z0 z1;exact Rq.lists (n:=1) (fun _=>true) (SqL.of hp) (SqL.of hq) rfl fun j x y hx hy=>by
  match j,hx,hy with
  |0,hx,hy=>cases hx;cases hy;exact z0
  |1,hx,hy=>cases hx;cases hy;exact z1
  |j+2,hx,_=>simp at hx
theorem u9(T:Txt K mg t):FnOk P w K mg base CX0 46 t.f_139 t.e_139 ["_law_script"] (sp_law K):=by
 have G_128:=@ol P w K mg base t T;have G_133:=@jG P w K mg base t T;have G_100:=@kL P w K mg base t T 9;have G_136:=@jE P w K mg base t T 9;have G_138:=@kK P w K mg base t T 9;have G_137:=@nY P w K mg base t T 9;have G_135:=@oi P w K mg base t T;have G_134:=@gn P w K mg base t T 9;have G_104:=@ou P w K mg base t T 9;have G_108:=@qw P w K mg base t T 9;refine T.d_139.F.ok sc_139 ∅ ?_;rintro cdv A outer s H vs Q E hr ⟨a,ns,rfl,hS,hlen,hbits,q⟩;have hu:=ny hr;refine ⟨_,
   (XSs.h
   (ae
    (az (i:=1) sc_139.nd rfl ll (bO dn (yqv 0 vl) (bK ac) (bK ac)))
   (ae
    (az (i:=2) sc_139.nd rfl ll ac)
   (b9
    (aF (ak c8 (av au gl T.z_len PySem.boot_len (aa (yqv 0 vl) ab)) ac (aB _))
     (af
      (az (i:=2) sc_139.nd rfl ll (am aD (yqv 0 vl) ac)))
     aA)
   (ae
    (az (i:=3) sc_139.nd rfl ll (aj ba ac (aj aY (yqv 2 vl) ac)))
   (ae
    (az (i:=4) sc_139.nd rfl ll (bO dn (ap T.d_128 G_128 hr.m (aa (yqv 2 vl) ab) gl) cL (bK (aj aY (aj b6 (yqv 2 vl) ac) ac))))
   (ae
    (az (i:=5) sc_139.nd rfl ll (bO dn (ap T.d_128 G_128 hr.m (aa (yqv 2 vl) ab) gl) (bK ac) (bK (aj ba ac (aj aY (aj b6 (yqv 2 vl) ac) ac)))))
   (ae
    (az (i:=6) sc_139.nd rfl ll (ap T.d_133 G_133 hr.m (aa (yqv 1 vl) (aa (aj br (yqv 4 vl) (yqv 5 vl)) (aa (yqv 3 vl) (aa ac ab)))) gl))
   (ae
    (az (i:=7) sc_139.nd rfl ll (ap T.d_133 G_133 hr.m (aa (yqv 1 vl) (aa (aj br (yqv 4 vl) (yqv 5 vl)) (aa (yqv 3 vl) (aa ac ab)))) gl))
   (ae
    (az (i:=8) sc_139.nd rfl ll (aI (aa (aN bD gl T.z_list boot_list (aa (yqv 4 vl) ab)) (aa (aN bD gl T.z_list boot_list (aa (yqv 5 vl) ab)) ab))))
   (ae
    (az (i:=9) sc_139.nd rfl ll (eM T.c_Program T.d_100 G_100 hr.m (aa (yqv 3 vl) (aa (am aD (yqv 8 vl) ac) (aa (am aD (yqv 8 vl) ac) (aa (yqv 7 vl) ab)))) gl))
   (b9
    (aF (aZ (bw (ak (dH (n:=1) (fz Jm hr)) (yqv 8 vl) (aI (aa (yqv 4 vl) (aa (yqv 5 vl) ab))) (aB _)) (bA (bg (bh (ap T.d_136 G_136 hr.m (aa (yqv 7 vl) (aa (yqv 6 vl) ab)) gl))))))
     (af
      (ay bT))
     aA)
   (ae
    (aL (bv PySem.F.plainAttrs_list PySem.F.slot_list_append PySem.F.type_list_append b4 (am aD (yqv 8 vl) ac) (aa aq ab)))
   (ae
    (aL (fk PySem.F.plainAttrs_list PySem.F.slot_list_clear PySem.F.type_list_clear iJ (am aD (yqv 8 vl) ac)))
   (ae
    (aL (ap T.d_138 G_138 hr.m (aa (yqv 7 vl) ab) gl))
   (b9
    (aF (bg (bh (ap T.d_137 G_137 hr.m (aa (yqv 9 vl) (aa (yqv 3 vl) (aa (yqv 4 vl) (aa (yqv 5 vl) (aa (yqv 6 vl) ab))))) gl)))
     (af
      (ay bT))
     aA)
   (ae
    (az (i:=10) sc_139.nd rfl ll (aj br (ap T.d_135 G_135 hr.m (aa (yqv 3 vl) (aa (yqv 4 vl) (aa (yqv 5 vl) ab))) gl) (ap T.d_134 G_134 hr.m (aa (yqv 6 vl) (aa bT ab)) gl)))
   (ae
    (az (i:=11) sc_139.nd rfl ll (ap T.d_104 G_104 hr.m (aa (yqv 9 vl) ab) gl))
   (b9
    (aF (aZ (bw (bg (bh (av bQ gl T.z_isinstance boot_isinstance (aa (yqv 11 vl) (aa (bV (v:=.ty "list") gl T.z_list boot_list rfl) ab))))) (bA (ak (dH (n:=0) (fz Jm hr)) (yqv 11 vl) (yqv 10 vl) (aB _)))))
     (af
      (ay bT))
     aA)
   (ae
    (az (i:=12) sc_139.nd rfl ll (aN bD gl T.z_list boot_list (aa (yqv 10 vl) ab)))
   (ae
    (az (i:=13) sc_139.nd rfl ll (ap T.d_108 G_108 hr.m (aa (yqv 12 vl) ab) gl))
   (b9
    (aF (aZ (bw (ak (dH (n:=0) (fz Jm hr)) (yqv 12 vl) (yqv 10 vl) (aB _)) (bw (bg (bh (ap T.d_137 G_137 hr.m (aa (yqv 13 vl) (aa (yqv 3 vl) (aa (yqv 4 vl) (aa (yqv 5 vl) (aa (yqv 6 vl) ab))))) gl))) (bA (ak (dH (n:=0) (fz Jm hr)) (ap T.d_104 G_104 hr.m (aa (yqv 13 vl) ab) gl) (yqv 10 vl) (aB _))))))
     (af
      (ay bT))
     aA)
   (ae
    (az (i:=13) sc_139.nd rfl ll (ap T.d_108 G_108 hr.m (aa (aj br (ap T.d_135 G_135 hr.m (aa (yqv 3 vl) (aa (yqv 4 vl) (aa (yqv 5 vl) ab))) gl) (ap T.d_134 G_134 hr.m (aa (yqv 6 vl) (aa bT ab)) gl)) ab) gl))
   (af
    (ay (ap T.d_137 G_137 hr.m (aa (yqv 13 vl) (aa (yqv 3 vl) (aa (yqv 4 vl) (aa (yqv 5 vl) (aa (yqv 6 vl) ab))))) gl)))))))))))))))))))))))))),?_⟩
 rw [show start _ [V.ref a]=some (.ref a)::List.replicate 13 none from rfl];simp_arith! [List.replicate_succ,List.replicate_zero];have hcut:dE (ns.map V.int) (some 1) (some 63)=((ns.take 63).drop 1).map V.int:=by rw [iw Jm Jm,vX,vY];rfl
 refine zA _ hS fun pc hpc=>?_;rw [hcut];have hm2:∀z∈(ns.take 63).drop 1,Builtin.Int.intBits z<=2 ^ 20:=fun z hz=>hbits z (vZ (List.mem_of_mem_drop hz));have hl2:((ns.take 63).drop 1).length<=63:=by rw [pS,eP];omega
 generalize (ns.take 63).drop 1=cs at hm2 hl2 ⊢;have s1:=Same.upd (o:=.lst (cs.map V.int)) hpc;refine aH ?_;simp_arith! [];refine aH ?_;simp_arith! [];refine ⟨fun σ H'=>H'=upd H pc (.lst (cs.map V.int))/\∃c0:Int,Builtin.Int.intBits c0<=2 ^ 20/\σ=[some (.ref a),some (.ref pc),some (.int c0),none,none,none,none,none,none,none,none,none,none,none],?_,?_⟩
 ·refine zA _ (.inl (s1.seq hS)) (aS (fun h=>?_) (fun h=>?_))
  ·rw [zq0] at h;have h0:(ns.map V.int)[0]?=some (.int ns[0]):=by rw [da,dc Jn];rfl
   exact zD _ _ (s1.seq hS) (aP h0) rfl (zA (ns[0]) (hbits _ (k8 _)) rfl)
  ·exact ⟨rfl,zA 3 Jm rfl⟩
 rintro σ H1 ⟨rfl,c0,hb0,rfl⟩;have hcs:upd H pc (.lst (cs.map V.int)) pc=some (.lst (cs.map V.int)):=upd_same;generalize upd H pc (.lst (cs.map V.int))=H1 at s1 hcs ⊢;refine aH ?_;simp_arith! [];have w0:0<=c0 % 8:=cI _ Jm;have w7:c0 % 8<8:=dw _ Jm;have k0:0<=c0 / 8 % 5:=cI _ Jm;have k4:c0 / 8 % 5<5:=dw _ Jm;have j0:0<=c0 / 40 % 5:=cI _ Jm;have j4:c0 / 40 % 5<5:=dw _ Jm;obtain ⟨hl8,hnd8,hnm8⟩:=jB c0;refine aH ?_;simp_arith! [l5];refine ⟨hb0,fun p2 H2 s2 hp2 hn2=>⟨CDivB.small Jm Jm,zA _ (SqL.of hn2) fun pi hpi=>?_⟩⟩;rw [kr k0,<- vY];refine aH ?_;simp_arith! [l5];refine ⟨hb0,fun p3 H3 s3 hp3 hn3=>⟨CDivB.small Jm Jm,zA _ (SqL.of hn3) fun po hpo=>?_⟩⟩;have si:=Same.upd (o:=.lst (((bb c0).take (c0 / 8 % 5).toNat).map V.str)) hpi;have hi3:H3 pi=some (.lst (((bb c0).take (c0 / 8 % 5).toNat).map V.str)):=s3 _ _ upd_same;have hcutO:dE ((bb c0).map V.str) (some 4) (some (4+c0 / 40 % 5))=(((bb c0).take (4+c0 / 40 % 5).toNat).drop 4).map V.str:=by rw [iw Jm Jn,vX,vY];rfl
 rw [hcutO];have so:=Same.upd (o:=.lst ((((bb c0).take (4+c0 / 40 % 5).toNat).drop 4).map V.str)) hpo;have li:((bb c0).take (c0 / 8 % 5).toNat).length<=4:=by rw [eP];omega
 have lo:(((bb c0).take (4+c0 / 40 % 5).toNat).drop 4).length<=4:=by rw [pS,eP];omega
 have hnd:((bb c0).take (c0 / 8 % 5).toNat++((bb c0).take (4+c0 / 40 % 5).toNat).drop 4).Nodup:=by
  have z:((bb c0).take 4++(bb c0).drop 4).Nodup:=by rw [vU];exact hnd8
  refine z.sublist (List.Sublist.append ?_ ?_)
  ·exact List.take_sublist_take_left Jn
  ·exact (List.take_sublist _ _).drop 4
 have hnm:∀n∈(bb c0).take (c0 / 8 % 5).toNat++((bb c0).take (4+c0 / 40 % 5).toNat).drop 4,bH n=true:=fun n hn=>by
  rcases zq10.mp hn with z | z
  ·exact hnm8 n (vZ z)
  ·exact hnm8 n (vZ (List.mem_of_mem_drop z))
 generalize (bb c0).take (c0 / 8 % 5).toNat=ins at *;generalize ((bb c0).take (4+c0 / 40 % 5).toNat).drop 4=oth at *;obtain ⟨wd,hwd⟩:∃wd,wd=1+c0 % 8:=⟨_,rfl⟩
 rw [<- hwd];have w1:1<=wd:=by omega
 have w8:wd<=8:=by omega
 have hN:NW (ins++oth) wd:=zC hnm Jn w8
 have ho4:upd H3 po (.lst (oth.map V.str)) po=some (.lst (oth.map V.str)):=upd_same;have hi4:upd H3 po (.lst (oth.map V.str)) pi=some (.lst (ins.map V.str)):=so _ _ hi3;have s4:Same H (upd H3 po (.lst (oth.map V.str))):=(((s1.trans s2).trans si).trans s3).trans so;have hc4:upd H3 po (.lst (oth.map V.str)) pc=some (.lst (cs.map V.int)):=so _ _ (s3 _ _ (si _ _ (s2 _ _ hcs)));refine aH ?_;generalize upd H3 po (.lst (oth.map V.str))=H4 at s4 hc4 hi4 ho4 ⊢;clear so si s3 hi3 hn3 hp3 s2 hpi hpo hn2 hp2 hcut hcutO hl8 hcs s1 hnd8 hnm8 hnm;simp_arith! [gu];refine zD _ _ hi4 ho4 (by rw [zq0,zq0,sizeLine_eq];omega) fun pb hpb=>?_;have sb:=Same.upd (o:=.lst (ins.map V.str++oth.map V.str)) hpb;refine zN cs (ins++oth) (zb (SqL.of (sb _ _ hc4)) hl2 hm2 (SqL.of (by rw [upd_same,zq6])) Jn Jn fun pr xs f H5 s5 hr5 hst5 _ _=>?_);have s45:=sb.trans s5;have hi5:=s45 _ _ hi4;have ho5:=s45 _ _ ho4;have hc5:=s45 _ _ hc4;refine aH ?_;clear s45 s5 sb hc4 hi4 ho4 hpb s4;simp_arith! [gu];refine zD _ _ hi5 ho5 (by rw [zq0,zq0,sizeLine_eq];omega) fun pb2 hpb2=>?_;have sb:=Same.upd (o:=.lst (ins.map V.str++oth.map V.str)) hpb2;refine zN cs (ins++oth) (zb (SqL.of (sb _ _ hc5)) hl2 hm2 (SqL.of (by rw [upd_same,zq6])) Jn Jn fun pg ys g H6 s6 hg6 hst6 hnd6 hfr6=>?_);have s56:=sb.trans s6;have hi6:=s56 _ _ hi5;have ho6:=s56 _ _ ho5;have hr6:=s56 _ _ hr5;have hrs6:=hst5.same s56;have hf6:∀c∈pg::g,H5 c=none:=fun c hc=>sb.free (hfr6 c hc);have hg5:=jM (cs:=cs) (ns:=ins++oth) (w:=wd) (most:=40) Jm;have njf:∀c∈pr::f,c∉pg::g:=fun c hc z=>by
  have z1:=hf6 c z;rcases zq1.mp hc with e | e
  ·rw [e,hr5] at z1;cases z1
  ·obtain ⟨u,hu⟩:=hst5.tracked c e;rw [hu] at z1;cases z1
 have npi:pi∉pg::g:=fun z=>by have z1:=hf6 pi z;rw [hi5] at z1;cases z1
 have npo:po∉pg::g:=fun z=>by have z1:=hf6 po z;rw [ho5] at z1;cases z1
 generalize dC cs (ins++oth) wd 40=ss at hg5 hst5 hst6 hrs6;obtain ⟨hgd,hdp,hmn⟩:=hg5;refine aH ?_;clear s56 s6 sb hc5 hi5 ho5 hpb2 hr5 hst5 hfr6 hf6;simp_arith! [];refine zA _ (.inl (SqL.of hi6)) fun l0 hl0=>zA _ (.inl (SqL.of (Same.upd hl0 _ _ ho6))) fun l1 hl1 pl hpl=>aH ?_;have t1:=Same.upd (o:=.lst (ins.map V.str)) hl0;have t2:=Same.upd (o:=.lst (oth.map V.str)) hl1;have t3:=Same.upd (o:=.lst [V.ref l0,V.ref l1]) hpl;have s7:=(t1.trans t2).trans t3;have e0:upd (upd (upd H6 l0 (.lst (ins.map V.str))) l1 (.lst (oth.map V.str))) pl (.lst [V.ref l0,V.ref l1]) l0=some (.lst (ins.map V.str)):=t3 _ _ (t2 _ _ upd_same);have e1:upd (upd (upd H6 l0 (.lst (ins.map V.str))) l1 (.lst (oth.map V.str))) pl (.lst [V.ref l0,V.ref l1]) l1=some (.lst (oth.map V.str)):=t3 _ _ upd_same;have e2:upd (upd (upd H6 l0 (.lst (ins.map V.str))) l1 (.lst (oth.map V.str))) pl (.lst [V.ref l0,V.ref l1]) pl=some (.lst [V.ref l0,V.ref l1]):=upd_same;have hl1n:=t1.free hl1;have n01:l0≠l1:=aw upd_same hl1;have n0p:l0≠pl:=aw (t2 _ _ upd_same) hpl;have n1p:l1≠pl:=aw upd_same hpl;generalize upd (upd (upd H6 l0 (.lst (ins.map V.str))) l1 (.lst (oth.map V.str))) pl (.lst [V.ref l0,V.ref l1])=H7 at s7 e0 e1 e2 ⊢;clear t1 t2 t3 hl1 hpl;simp_arith! [];refine zB _ _ (SqL.of e2) rfl (zB _ _ (SqL.of e2) rfl ?_);intro pp dx hpp hdx hne;simp_arith! [oS];have s8:Same H7 (upd (upd H7 dx (.own pp)) pp (.ins t.C_Program dx [])):=(Same.upd hdx).updM hpp;refine zq dx ins oth ys ss g (zk upd_same (s8 _ _ e0) (s8 _ _ e1) (s8 _ _ (s7 _ _ hg6)) ((hst6.same s7).same s8) Jn Jn Jn Jn fun a' b' r' ys' g' H9 sx hP9 _ hfr=>⟨rfl,aH ?_⟩);have s9:Same H7 H9:=fun c' o' e=>sx c' o' (s8 _ _ e) (aw e hpp);have hfr7:∀c∈a'::b'::r'::g',H7 c=none:=fun c hc=>s8.free (hfr c hc);have s69:=s7.trans s9;have e0:=s9 _ _ e0;have e1:=s9 _ _ e1;have e2:=s9 _ _ e2;have F9:∀c∈l0::l1::pg::g,∃zs,H7 c=some (.lst zs):=fun c hc=>by
  rcases zq1.mp hc with z | hc
  ·rw [z];exact ⟨_,‹H7 l0=_›⟩
  rcases zq1.mp hc with z | hc
  ·rw [z];exact ⟨_,‹H7 l1=_›⟩
  rcases zq1.mp hc with z | hc
  ·rw [z];exact ⟨_,s7 _ _ hg6⟩
  ·exact (hst6.same s7).tracked c hc
 have nP:∀c∈a'::b'::r'::g',c∉l0::l1::pg::g:=fun c hc z=>by obtain ⟨zs,hz⟩:=F9 c z;rw [hfr7 c hc] at hz;cases hz
 have F9':∀c∈l0::l1::pg::g,∃zs,H9 c=some (.lst zs):=fun c hc=>by obtain ⟨zs,hz⟩:=F9 c hc;exact ⟨zs,s9 _ _ hz⟩
 have old:∀c,(∃o,H6 c=some o)->c∉pg::g->c∉l0::l1::pg::g:=fun c ⟨o,ho⟩ h z=>by
  rcases zq1.mp z with z | z
  ·rw [z,hl0] at ho;cases ho
  rcases zq1.mp z with z | z
  ·rw [z,hl1n] at ho;cases ho
  ·exact h z
 have nI:=old pi ⟨_,hi6⟩ npi;have nO:=old po ⟨_,ho6⟩ npo;have nR:∀c∈pr::f,c∉l0::l1::pg::g:=fun c hc=>old c (by
  rcases zq1.mp hc with z | z
  ·rw [z];exact ⟨_,hr6⟩
  ·obtain ⟨u,hu⟩:=hrs6.tracked c z;exact ⟨_,hu⟩) (njf c hc)
 have n0g:l0∉pg::g:=fun z=>by
  rcases zq1.mp z with z | z
  ·rw [<- z,hl0] at hg6;cases hg6
  ·obtain ⟨u,hu⟩:=hst6.tracked l0 z;rw [hl0] at hu;cases hu
 have n1g:l1∉pg::g:=fun z=>by
  rcases zq1.mp z with z | z
  ·rw [<- z,hl1n] at hg6;cases hg6
  ·obtain ⟨u,hu⟩:=hst6.tracked l1 z;rw [hl1n] at hu;cases hu
 have ne0i:l0≠pi:=fun z=>nI (by rw [<- z];exact zq4 ..);have ne1o:l1≠po:=fun z=>nO (by rw [<- z];exact zq2 _ (zq4 ..));have hi9:=s69 _ _ hi6;have ho9:=s69 _ _ ho6;have hr9:=s69 _ _ hr6;have hrs9:=hrs6.same s69;have hg9:=s69 _ _ hg6;have hgs9:=hst6.same s69;clear hi6 ho6 hr6 hrs6 hg6 hst6 s69 s9 s8 s7 sx hfr hfr7 F9 old njf npi npo hpp hdx hl0 hl1n;simp_arith! [iT];refine zA (fun σ H'=>Same H9 H'/\σ=[some (.ref a),some (.ref pc),some (.int c0),some (.int wd),some (.ref pi),some (.ref po),some (.ref pr),some (.ref pg),some (.ref pl),some (.ref pp),none,none,none,none]) ?_ ?_
 ·intro p5 hp5;have t5:=Same.upd (o:=.lst [V.ref pi,V.ref po]) hp5;refine zA true (mt (t5 _ _ e2) upd_same (t5 _ _ e0) (t5 _ _ e1) (t5 _ _ hi9) (t5 _ _ ho9) ne0i ne1o) (zA _ rfl ?_);rw [if_neg Jm];refine zO ss ys xs g f (t5 _ _ hg9) (t5 _ _ hr9) (hgs9.same t5) (hrs9.same t5) Jn Jn fun H10 s10=>zA _ rfl ?_;rw [if_neg Jm];exact ⟨t5.trans s10,rfl⟩
 rintro σ H10 ⟨s10,rfl⟩;refine aH ?_;simp_arith! [];refine zD _ _ (SqL.of (s10 _ _ e2)) rfl (.inl ⟨rfl,_,SqL.of (s10 _ _ e0)⟩) ?_;refine zQ _ _ _ rfl rfl (s10 _ _ e0) (by rw [zq0,sizeLine_eq];omega) (aH ?_);have sfA:SameF (l0::l1::pg::g) H9 (upd H10 l0 (.lst (ins.map V.str++[V.str (Str.ofString "none")]))):=SameF.upd (SameF.of s10) (zq4 ..);have e1A:upd H10 l0 (.lst (ins.map V.str++[V.str (Str.ofString "none")])) l1=some (.lst (oth.map V.str)):=by rw [aC n01.symm];exact s10 _ _ e1
 have e2A:upd H10 l0 (.lst (ins.map V.str++[V.str (Str.ofString "none")])) pl=some (.lst [V.ref l0,V.ref l1]):=by rw [aC n0p.symm];exact s10 _ _ e2
 have kA:SameF [l0] H9 (upd H10 l0 (.lst (ins.map V.str++[V.str (Str.ofString "none")]))):=SameF.upd (SameF.of s10) (zq4 ..);generalize upd H10 l0 (.lst (ins.map V.str++[V.str (Str.ofString "none")]))=HA at sfA e1A e2A kA ⊢;clear s10;simp_arith! [];refine zD _ _ (SqL.of e2A) rfl (.inl ⟨rfl,_,SqL.of e1A⟩) ?_;refine zD _ _ rfl rfl e1A (aH ?_);have sfB:SameF (l0::l1::pg::g) H9 (upd HA l1 (.lst [])):=SameF.upd sfA (zq2 _ (zq4 ..));have kB:SameF [l0,l1] H9 (upd HA l1 (.lst [])):=SameF.upd (kA.mono fun c hc=>by rw [zq9.mp hc];exact zq4 ..) (zq2 _ (zq4 ..));generalize upd HA l1 (.lst [])=HB at sfB kB ⊢;clear sfA e1A e2A kA;simp_arith! [dI];have n01g:∀c∈pg::g,c∉[l0,l1]:=fun c hc z=>by
  rcases zq1.mp z with z | z
  ·exact n0g (by rw [<- z];exact hc)
  ·exact n1g (by rw [<- zq9.mp z];exact hc)
 have trB:∀c∈[l0,l1],∃zs,H9 c=some (.lst zs):=fun c hc=>F9' c (by
  rcases zq1.mp hc with z | z
  ·rw [z];exact zq4 ..
  ·rw [zq9.mp z];exact zq2 _ (zq4 ..))
 refine zM ys ss g (kB _ _ hg9 (n01g pg (zq4 ..))) (hgs9.keep (kB.ts trB) (kB.kept fun c hc=>n01g c (zq2 _ hc))) hnd6 Jn Jn fun HC sfC _=>aH ?_;have sf:=sfB.trans (sfC.mono fun c hc=>zq2 _ (zq2 _ hc));have hPC:=ProgAt.keepF hP9 sf F9' nP;have hiC:=sf _ _ hi9 nI;have hoC:=sf _ _ ho9 nO;have hrC:=sf _ _ hr9 (nR pr (zq4 ..));have hrsC:=hrs9.keep (sf.ts F9') (sf.kept fun c hc=>nR c (zq2 _ hc));clear sf sfC sfB kB trB n01g hi9 ho9 hr9 hrs9 hg9 hgs9 F9' nP hP9 e0 e1 e2 nI nO nR n0g n1g n01 n0p n1p ne0i ne1o hnd6;simp_arith! [hU];refine zA (fun σ H'=>Same HC H'/\σ=[some (.ref a),some (.ref pc),some (.int c0),some (.int wd),some (.ref pi),some (.ref po),some (.ref pr),some (.ref pg),some (.ref pl),some (.ref pp),none,none,none,none]) ?_ ?_
 ·refine zj ins oth ss a' b' r' ys' g' xs f (zk hPC hiC hoC hrC hrsC Jn Jn Jn Jn fun HD sD=>zA _ rfl ?_);rw [if_neg Jm];exact ⟨sD,rfl⟩
 rintro σ HD ⟨sD,rfl⟩;have hP:=hPC.same sD;have hi:=sD _ _ hiC;have ho:=sD _ _ hoC;have hrr:=sD _ _ hrC;have hrs:=hrsC.same sD;clear hPC hiC hoC hrC hrsC sD;refine aH ?_;simp_arith! [kZ,bu];refine zZ ins oth hi ho Jn Jn hN fun ph HE sE hph heh=>?_;refine zO xs ss f (ins++oth) wd (sE _ _ hrr) (hrs.same sE) Jn Jn hN hgd fun pq HF sF hpq heq=>?_;have lh:((hT wd ins oth).map jn).length<=10:=by unfold hT;rw [zq0,cj,zq8,zq0,zq0];omega
 have ll:(ln false ss).length<=120:=by have:=cq (al:=false) (ss:=ss);omega
 refine eX (sF _ _ heh) heq (by rw [zq0 (f:=V.str),zq0 (f:=V.str)];omega) fun pd hpd=>aH ?_;have sG:=(sE.trans sF).trans (Same.upd (o:=.lst (((hT wd ins oth).map jn).map V.str++(ln false ss).map V.str)) hpd);have hd0:upd HF pd (.lst (((hT wd ins oth).map jn).map V.str++(ln false ss).map V.str)) pd=some (.lst (((hT wd ins oth).map jn++ln false ss).map V.str)):=by rw [upd_same,zq6]
 generalize upd HF pd (.lst (((hT wd ins oth).map jn).map V.str++(ln false ss).map V.str))=HG at sG hd0 ⊢;have hP:=hP.same sG;have hi:=sG _ _ hi;have ho:=sG _ _ ho;have hrr:=sG _ _ hrr;have hrs:=hrs.same sG;clear sG sF sE heh heq hpd hph hpq;simp_arith! [l6];refine za wd ins oth ss a' b' r' ys' g' (zg hP Jn Jn Jn Jn hN hgd fun pf HH sH hpf hef=>aH ?_);simp_arith! [];have hd1:=sH _ _ hd0;have hP:=hP.same sH;have hi:=sH _ _ hi;have ho:=sH _ _ ho;have hrr:=sH _ _ hrr;have hrs:=hrs.same sH;clear sH hd0 hpf;refine zA (fun σ H'=>H'=HH/\σ=[some (.ref a),some (.ref pc),some (.int c0),some (.int wd),some (.ref pi),some (.ref po),some (.ref pr),some (.ref pg),some (.ref pl),some (.ref pp),some (.ref pd),some (.ref pf),none,none]) ?_ ?_
 ·refine cZ (SqL.of hef) (zA _ rfl ?_);rw [if_neg Jm];have z:=cD (K:=K) (H:=HH) (n:=0) (SqL.of hef) (SqL.of hd1);rw [decide_eq_true rfl] at z;refine zA true z (zA _ rfl ?_);rw [if_neg Jm];exact ⟨rfl,rfl⟩
 rintro σ HH' ⟨rfl,rfl⟩;refine aH ?_;simp_arith! [];refine zA _ (.inl (SqL.of hd1)) fun pk hpk=>aH ?_;have sI:=Same.upd (o:=.lst (((hT wd ins oth).map jn++ln false ss).map V.str)) hpk;have hk0:upd HH' pk (.lst (((hT wd ins oth).map jn++ln false ss).map V.str)) pk=some (.lst (((hT wd ins oth).map jn++ln false ss).map V.str)):=upd_same;have hd2:=sI _ _ hd1;have hi:=sI _ _ hi;have ho:=sI _ _ ho;have hrr:=sI _ _ hrr;have hrs:=hrs.same sI;generalize upd HH' pk (.lst (((hT wd ins oth).map jn++ln false ss).map V.str))=HI at sI hk0 hd2 hi ho hrr hrs ⊢;clear sI hpk hd1 hef hP;simp_arith! [oX];refine zd wd ins oth false ss (zr (by rw [zq6 (f:=jn)];exact hk0) w1 hN li lo hnd Jn Jn Jn hgd fun p2 a2 b2 r2 xs2 f2 HJ sJ hp2 hP2=>aH ?_);have hk1:=sJ _ _ hk0;have hd3:=sJ _ _ hd2;have hi:=sJ _ _ hi;have ho:=sJ _ _ ho;have hrr:=sJ _ _ hrr;have hrs:=hrs.same sJ;clear sJ hk0 hd2 hp2;simp_arith! [hU,l6];refine zA (fun σ H'=>Same HJ H'/\σ=[some (.ref a),some (.ref pc),some (.int c0),some (.int wd),some (.ref pi),some (.ref po),some (.ref pr),some (.ref pg),some (.ref pl),some (.ref pp),some (.ref pd),some (.ref pf),some (.ref pk),some (.ref p2)]) ?_ ?_
 ·have z:=cD (K:=K) (H:=HJ) (n:=0) (SqL.of hk1) (SqL.of hd3);rw [decide_eq_true rfl] at z;refine zA true z (zA _ rfl ?_);rw [if_neg Jm];refine zj ins oth ss a2 b2 r2 xs2 f2 xs f (zk hP2 hi ho hrr hrs Jn Jn Jn Jn fun HK sK=>zA _ rfl ?_);rw [if_neg Jm];refine za wd ins oth ss a2 b2 r2 xs2 f2 (zg (hP2.same sK) Jn Jn Jn Jn hN hgd fun pz HL sL hpz hez=>?_);have z2:=cD (K:=K) (H:=HL) (n:=0) (SqL.of hez) (SqL.of (sL _ _ (sK _ _ hd3)));rw [decide_eq_true rfl] at z2;refine zA true z2 (zA _ rfl ?_);rw [if_neg Jm];exact ⟨sK.trans sL,rfl⟩
 rintro σ HK ⟨sK,rfl⟩;have hi:=sK _ _ hi;have ho:=sK _ _ ho;have hrr:=sK _ _ hrr;have hrs:=hrs.same sK;clear sK hk1 hd3 hP2;refine aH ?_;simp_arith! [kZ,bu];refine zZ ins oth hi ho Jn Jn hN fun ph HE sE hph heh=>?_;refine zO xs ss f (ins++oth) wd (sE _ _ hrr) (hrs.same sE) Jn Jn hN hgd fun pq HF sF hpq heq=>?_;have ll:(ln true ss).length<=120:=by have:=cq (al:=true) (ss:=ss);omega
 refine eX (sF _ _ heh) heq (by rw [zq0 (f:=V.str),zq0 (f:=V.str)];omega) fun pd2 hpd2=>?_;have sG:=(sE.trans sF).trans (Same.upd (o:=.lst (((hT wd ins oth).map jn).map V.str++(ln true ss).map V.str)) hpd2);rw [oX];refine zd wd ins oth true ss (zr (by rw [upd_same,zq6 (f:=jn),zq6];rfl) w1 hN li lo hnd Jn Jn Jn hgd fun p3 a3 b3 r3 xs3 f3 HM sM hp3 hP3=>aH ?_);have sN:=sG.trans sM;simp_arith! [hU];exact zj ins oth ss a3 b3 r3 xs3 f3 xs f (zk hP3 (sN _ _ hi) (sN _ _ ho) (sN _ _ hrr) (hrs.same sN) Jn Jn Jn Jn fun HK _=>q HK)
theorem m7(T:Txt K mg t):∀(s:Shared)(u:Value),BindsTo s t.e_139 ⟨[u],[]⟩ [("_law_script",u)]:=by obtain ⟨oc,od,kV,doc,pm,an,cdv,ct,osl,e,_,_⟩:=T.d_139.F.ex;intro s u;rw [e];exact .of_eq rfl
end
theorem yv{l:W.OpenLaw}{q:Program}{loose:List Str}{XP:(Str->Option Value)->Heap->Prop}{YP:World->Heap->Prop}{d:DefRec}{K:Params->W.Frag}(hn:l.most=some 63)(hdf:d.params.defaults=[])(hd:d.name="law")
  (hY:∀(w:World)(h:Heap),YP w h->(K w.params).In h)
  (F:∀(w:World)(mg:Str->Option Value)(h:Heap),(K w.params).In h->h.Ns mainGlobals mg->∃t,Txt (K w.params) mg t) :
  W.WalkO q loose XP YP l.row.toRowW d [] (fun f vs=>PySem.call f vs):=by
 refine L2.pL (n:=63) (k:=100) (x:="_law_script") (CX:=fun _=>CX0) (sp:=fun w=>sp_law (K w.params)) hn Jm hdf ⟨rfl,Jm,Jm⟩ hY (fun w mg fa h KX G hmg=>?_) (fun _ _ a ns hl hb _ hS=>zP a ns rfl hS hl hb fun _=>rfl) fun _ _ _ _ _ z=>z;obtain ⟨t,T⟩:=F w mg h KX G;rw [hd] at hmg;have e0:=hmg.symm.trans T.d_139.M
 cases e0
 exact zA t.e_139 (m7 T) fun base _ _=>(u9 T).mono Jm
end K02
set_option maxHeartbeats 4000000
local macro_rules | `(tactic| simp_arith [$ts,*])=>`(tactic| ((try dsimp only); k_is))
local macro_rules | `(∅)=>`(by simp_arith [])
namespace PySem.W.Fast
def tw12159637033799345846:=0
def tw2015032487033501966:=0
def tw15127450195764103323:=0
def tw14040765711486003844:=0
def tw14230210130954708119:=0
def tw573667953702404745:=0
def tw1151971316321602927:=0
def tw628530282369076075:=0
def tw1666693665409916812:=0
def tw3192042909722100850:=0
def tw8153759088738528325:=0
def tw13152084833079820367:=0
def tw9562070006401222734:=0
def tw6533182316510053345:=0
def tw4726450466418397720:=0
def tw13097474059781796562:=0
def tw17621696104722861066:=0
def tw7028673606077662518:=0
def tw4500776130409585330:=0
def tw6158804425409696375:=0
def tw12414700375683175219:=0
def tw14518082613298837055:=0
def tw11482703086012881726:=0
def tw7228332642062375953:=0
def tw3231925112266178537:=0
def tw249669597617011884:=0
def tw9011836517577271728:=0
def tw5168227442800152018:=0
def tw9261267259464996370:=0
def tw8477410084932805886:=0
def tw15657465681503289195:=0
def tw8496421376309106603:=0
def tw3652649996729097346:=0
def tw6127046591045262040:=0
def tw17185093422422098938:=0
def tw2733615101347996219:=0
def tw8862007073280941600:=0
def tw4953255058866134340:=0
def tw9320081943750692080:=0
def tw11216482625135834173:=0
def tw2361691944267142290:=0
def tw17795353360105100083:=0
def tw4122669699674530782:=0
def tw6934899255010297102:=0
def tw10574752925468426552:=0
def tw5823121338325085830:=0
def tw360253717273098831:=0
def tw7979785247797038986:=0
def tw10083462111405590915:=0
def tw2889282219702656213:=0
def tw1353836931765175723:=0
def tw16665985373262372217:=0
def tw13218013026260979021:=0
def tw12424147267584760049:=0
def tw6329773519148056449:=0
def tw4274431681704425179:=0
def tw4373651375482098858:=0
def tw14326284280601479258:=0
def tw17913906464761654461:=0
def tw793279618609243279:=0
def tw4884663545629060477:=0
def tw12637044429560259911:=0
def tw4715993083715798153:=0
def tw1750222891829074665:=0
def tw3421660270097750578:=0
def tw5704554141005620119:=0
def tw13662809972672323182:=0
def tw12821542951277744117:=0
def tw17259545138431154256:=0
def tw14246434327525882818:=0
def tw12661891317434272690:=0
def tw5718703474101641179:=0
def tw482763711497718101:=0
def tw16566226509291532350:=0
def tw9307499832559591938:=0
def tw10677367096672743138:=0
def tw17650162801184984679:=0
def tw17837644763097420660:=0
def tw13343816585624019275:=0
def tw6489259423733212368:=0
def tw9042067151534194621:=0
def tw3968586134681672608:=0
def tw16095241566205442283:=0
def tw4856075515937149541:=0
def tw14407577809947993817:=0
def tw12364626934223305882:=0
def tw5978481121528137105:=0
def tw10743200183602780281:=0
def tw14519905585922780664:=0
def tw16264943760253980394:=0
def tw15661499777240337528:=0
def tw12256459560375634578:=0
def tw16586436479851871135:=0
def tw6704281192346281222:=0
def tw17639884316386370409:=0
def tw8045989953707780633:=0
def tw11896088442118474581:=0
def tw4059185133879903814:=0
def tw6783065339974916331:=0
def tw9643240284830375306:=0
def tw15603375586170742672:=0
def tw16100506008948432214:=0
def tw2754179928233120564:=0
def tw1208768441327437832:=0
def tw14741346728669712125:=0
def tw2878374010972936003:=0
def tw10104916832765099590:=0
def tw7438808029980486419:=0
def tw11608052021199745345:=0
def tw6666693971540058721:=0
def tw8723821661377317966:=0
def tw15111915107076808675:=0
def tw4474034334210120448:=0
def tw411474569110204898:=0
def tw17389480561248268605:=0
def tw17830283872429291653:=0
def tw9377650043950515773:=0
def tw7091165534050534477:=0
def tw251703338236246545:=0
def tw2177875090994543066:=0
def tw7610154578943720063:=0
def tw13190241223231582894:=0
def tw6053666722927871339:=0
def tw4879941878516522919:=0
def tw16788768213464316855:=0
def tw6545775010234583448:=0
def tw7317893944010370261:=0
def tw5631924278321912508:=0
def tw7595583435386382075:=0
def tw3314773619114265972:=0
def tw10743732436768263971:=0
def tw11726005465861094708:=0
def tw11645503550142722189:=0
def tw16523396852029779266:=0
def tw8943547711968402726:=0
def tw12735982234292988663:=0
def tw2797556714339269888:=0
def tw13231363840860176784:=0
def tw14203044016679405035:=0
def tw2481382646633666370:=0
def tw2545071813904646754:=0
def tw14767362368895968763:=0
def tw12931437255579290874:=0
def tw1001454988126097813:=0
def tw6300192732879000273:=0
def tw9303477344631900520:=0
def tw8399918030906315555:=0
def tw8252947999022760012:=0
def tw8206759714056267304:=0
def tw7959448433613592124:=0
def tw6125845742131060444:=0
def tw10766504162885831223:=0
def tw18370623340993436365:=0
def tw7343150858086611826:=0
def tw5622587675297459519:=0
def tw12044536409243660884:=0
def tw9021950326231121418:=0
def tw16686500659556882606:=0
def tw1349935749202905767:=0
def tw404954155292798819:=0
def tw13041589768564013190:=0
def tw5274335546093751728:=0
def tw11752762946648901370:=0
def tw13818435661844504469:=0
def tw11466668454166962285:=0
def tw6070558283852980454:=0
def tw2044247676407981211:=0
def tw13957483111069706877:=0
def tw4573561341115750648:=0
def tw10842617828085187161:=0
def tw16711196366367948873:=0
def tw2506239487201760329:=0
def tw3315004488415939187:=0
def tw15630783201128225435:=0
def tw12429040567955822065:=0
def tw16188711775439664514:=0
def tw2356619328582242123:=0
def tw18407160196003050447:=0
def tw1847182365458047453:=0
def tw8029574795823660226:=0
def tw14108297376823526561:=0
def tw3004934838341721470:=0
def tw161677110407345212:=0
def tw9281280081327274700:=0
def tw17311625804715700870:=0
def tw15699666574043538800:=0
def tw9838279824963735769:=0
def tw9556518722394436658:=0
def tw8920087692273796619:=0
def tw6300311973542926227:=0
def tw18290717204434497188:=0
def tw13215280961831919242:=0
def tw4379042105261718842:=0
def tw13266150415219419078:=0
def tw880324748902155384:=0
def tw16710761128521806730:=0
def tw8941746975379682488:=0
def tw17285411122613283660:=0
def tw11274154574576550603:=0
def tw9259299352247739638:=0
def tw10161518702780681190:=0
def tw10093490046123110615:=0
def tw12903241948402040244:=0
def tw6601648396790119383:=0
def tw9454127292517444521:=0
def tw11466669715653593270:=0
def tw2319443749531684716:=0
def tw16815129693359899746:=0
def tw14032824059333735290:=0
def tw4697148437447392843:=0
def tw3838998680663127954:=0
def tw1110265243414086698:=0
def tw6748287589956197936:=0
def tw85266870635906999:=0
def tw6901939928512487803:=0
def tw17729370616527374024:=0
def tw1207045811099387664:=0
def tw8650548338017611994:=0
def tw7815217652674311990:=0
def tw4360960528641751420:=0
def tw3622891782955186301:=0
def tw15907443605684015790:=0
def tw8140176315671739714:=0
def tw9866415054553540151:=0
def tw7350000009652633936:=0
def tw17837326996037817412:=0
def tw17548983216117215688:=0
def tw9967890450861493245:=0
def tw9674564466088695178:=0
def tw942264972606233238:=0
def tw9204754471709783795:=0
def tw8872752963867431289:=0
def tw8684229281149007989:=0
def tw8199103361581225503:=0
def tw8114739129323742391:=0
def tw7903018359918772326:=0
def tw7848718805197663692:=0
def tw7731718298809651224:=0
def tw7479254063465738542:=0
def tw6142879490481460666:=0
def tw6022853693923889323:=0
def tw5957250077111190068:=0
def tw5795923942121100002:=0
def tw5662554547510546413:=0
def tw5462957948170226697:=0
def tw5421526226218004819:=0
def tw5343733374788383826:=0
def tw5312682744095535691:=0
def tw524535718391000896:=0
def tw516717049287761646:=0
def tw4862816299405233142:=0
def tw4763429601631234136:=0
def tw465284164414832044:=0
def tw460148021946201692:=0
def tw4437823142792219563:=0
def tw4414463654194158200:=0
def tw4016095087172184503:=0
def tw4015099566797798909:=0
def tw3856846105825188330:=0
def tw3726082111958499160:=0
def tw3577723209194325681:=0
def tw3186812394737832042:=0
def tw2986422305276489624:=0
def tw285221723434457028:=0
def tw2159196379701604069:=0
def tw1854198970851582397:=0
def tw18334410474922584106:=0
def tw1832748873218091753:=0
def tw18295281716530773032:=0
def tw18224236203706254187:=0
def tw17887895228596202903:=0
def tw17422246114739259429:=0
def tw17083525850708311597:=0
def tw17007896032333732717:=0
def tw16755338672476294018:=0
def tw16384334238453169879:=0
def tw15909850453681251061:=0
def tw15478713462252349520:=0
def tw15280415347645387431:=0
def tw14704740478874894010:=0
def tw14439227014214155036:=0
def tw13987753786553996356:=0
def tw13972417997519268406:=0
def tw13938511242022573917:=0
def tw13804699535841525865:=0
def tw13657824796888842741:=0
def tw13576195966601194394:=0
def tw13541242448777146318:=0
def tw13516503336372213451:=0
def tw13353394806122863725:=0
def tw1333427197681866535:=0
def tw13209489752990511075:=0
def tw12968619597376664503:=0
def tw12922451458531753606:=0
def tw1282490841489654137:=0
def tw12337980599602270181:=0
def tw12314752583044989468:=0
def tw12195575264441594801:=0
def tw11525212115062447363:=0
def tw11484181749216518010:=0
def tw11443889409800435266:=0
def tw11155817925368285713:=0
def tw1109643282619880691:=0
def tw10937483069011919990:=0
def tw10896268355139533697:=0
def tw10278291200958796291:=0
def tw10264523489414010889:=0
def tw10117021962475750579:=0
def tw10100667729915262677:=0
end PySem.W.Fast
open PySem PySem.W PyProof.Rows
set_option maxRecDepth 100000 in
set_option maxHeartbeats 0 in
theorem PySem.Challenge.cw_deedloom_k02_programs_written_holds : PySem.Challenge.rw_deedloom_k02_programs_written.Holds := by
 w_on; o_law; k_head; (case hw=>w_witness2)
 k_fill
 refine K02.yv (l := PySem.Challenge.rw_deedloom_k02_programs_written) rfl rfl rfl (fun w h Y=>PySem.W.kIn_of Y) ?F
 case F =>
  intro w mg h KX G
  exact ⟨⟨_,_,_,_,_,_,_,_,_,_,_,_,_,_,_,_,_,_,_,_,_,_,_,_,_,_,_,_,_,_,_,_,_,_,_,_,_,_,_,_,_,_,_,_,_,_,_,_,_,_,_,_,_,_,_,_,_,_,_,_,_,_,_,_,_,_,_,_,_,_,_,_,_,_,_,_,_,_,_,_,_,_,_,_,_,_,_,_,_,_,_⟩,⟨PySem.W.mg_of KX G ∅,PySem.W.mg_of KX G ∅,PySem.W.mg_of KX G ∅,PySem.W.mg_of KX G ∅,PySem.W.mg_of KX G ∅,PySem.W.mg_of KX G ∅,PySem.W.mg_of KX G ∅,PySem.W.mg_of KX G ∅,PySem.W.mg_of KX G ∅,K02.vD ∅,L2.wb KX G ∅ ∅ ∅ ∅ ∅ ∅ ∅,by show PySem.W.findIn _ _ _ = some none; simp_arith [],by show PySem.W.findIn _ _ _ = some none; simp_arith [],by show PySem.W.findIn _ _ _ = some none; simp_arith [],by show PySem.W.findIn _ _ _ = some none; simp_arith [],L2.wb KX G ∅ ∅ ∅ ∅ ∅ ∅ ∅,by show PySem.W.findIn _ _ _ = some none; simp_arith [],by show PySem.W.findIn _ _ _ = some none; simp_arith [],by show PySem.W.findIn _ _ _ = some none; simp_arith [],by show PySem.W.findIn _ _ _ = some none; simp_arith [],by show PySem.W.findIn _ _ _ = some none; simp_arith [],L2.eA ∅ ∅ ∅ ∅ ∅ (L2.bn5 fun _ _ _ _ _ _ _ _ _ _ _=>rfl),L2.bW KX G ∅ ∅ ∅ ∅ (L2.bn1 fun _ _ _ _ _ _ _=>rfl),L2.bW KX G ∅ ∅ ∅ ∅ (L2.bn1 fun _ _ _ _ _ _ _=>rfl),L2.bW KX G ∅ ∅ ∅ ∅ (L2.bn1 fun _ _ _ _ _ _ _=>rfl),L2.bW KX G ∅ ∅ ∅ ∅ (L2.bn1 fun _ _ _ _ _ _ _=>rfl),L2.bW KX G ∅ ∅ ∅ ∅ (L2.bn1 fun _ _ _ _ _ _ _=>rfl),L2.bW KX G ∅ ∅ ∅ ∅ (L2.bn1 fun _ _ _ _ _ _ _=>rfl),L2.bW KX G ∅ ∅ ∅ ∅ (L2.bn1 fun _ _ _ _ _ _ _=>rfl),L2.bW KX G ∅ ∅ ∅ ∅ (L2.bn1 fun _ _ _ _ _ _ _=>rfl),L2.bW KX G ∅ ∅ ∅ ∅ (L2.bn1 fun _ _ _ _ _ _ _=>rfl),L2.bW KX G ∅ ∅ ∅ ∅ (L2.bn3 fun _ _ _ _ _ _ _ _ _=>rfl),L2.bW KX G ∅ ∅ ∅ ∅ (L2.bn2 fun _ _ _ _ _ _ _ _=>rfl),L2.bW KX G ∅ ∅ ∅ ∅ (L2.bn1 fun _ _ _ _ _ _ _=>rfl),L2.bW KX G ∅ ∅ ∅ ∅ (L2.bn1 fun _ _ _ _ _ _ _=>rfl),L2.eA ∅ ∅ ∅ ∅ ∅ (L2.bn4 fun _ _ _ _ _ _ _ _ _ _=>rfl),L2.eA ∅ ∅ ∅ ∅ ∅ (L2.bn1 fun _ _ _ _ _ _ _=>rfl),L2.eA ∅ ∅ ∅ ∅ ∅ (L2.bn1 fun _ _ _ _ _ _ _=>rfl),L2.eA ∅ ∅ ∅ ∅ ∅ (L2.bn2 fun _ _ _ _ _ _ _ _=>rfl),L2.eA ∅ ∅ ∅ ∅ ∅ (L2.bn2 fun _ _ _ _ _ _ _ _=>rfl),L2.eA ∅ ∅ ∅ ∅ ∅ (L2.bn2 fun _ _ _ _ _ _ _ _=>rfl),L2.eA ∅ ∅ ∅ ∅ ∅ (L2.bn3 fun _ _ _ _ _ _ _ _ _=>rfl),L2.eA ∅ ∅ ∅ ∅ ∅ (L2.bn3 fun _ _ _ _ _ _ _ _ _=>rfl),L2.eA ∅ ∅ ∅ ∅ ∅ (L2.bn2 fun _ _ _ _ _ _ _ _=>rfl),L2.eA ∅ ∅ ∅ ∅ ∅ (L2.bn1 fun _ _ _ _ _ _ _=>rfl),L2.eA ∅ ∅ ∅ ∅ ∅ (L2.bn2 fun _ _ _ _ _ _ _ _=>rfl),L2.eA ∅ ∅ ∅ ∅ ∅ (L2.bn2 fun _ _ _ _ _ _ _ _=>rfl),L2.bW KX G ∅ ∅ ∅ ∅ (L2.bn1 fun _ _ _ _ _ _ _=>rfl),L2.bW KX G ∅ ∅ ∅ ∅ (L2.bn2 fun _ _ _ _ _ _ _ _=>rfl),L2.bW KX G ∅ ∅ ∅ ∅ (L2.bn1 fun _ _ _ _ _ _ _=>rfl),L2.bW KX G ∅ ∅ ∅ ∅ (L2.bn3 fun _ _ _ _ _ _ _ _ _=>rfl),L2.bW KX G ∅ ∅ ∅ ∅ (L2.bn3 fun _ _ _ _ _ _ _ _ _=>rfl),L2.bW KX G ∅ ∅ ∅ ∅ (L2.bn2 fun _ _ _ _ _ _ _ _=>rfl),L2.bW KX G ∅ ∅ ∅ ∅ (L2.bn1 fun _ _ _ _ _ _ _=>rfl),L2.bW KX G ∅ ∅ ∅ ∅ (L2.bn4 fun _ _ _ _ _ _ _ _ _ _=>rfl),L2.bW KX G ∅ ∅ ∅ ∅ (L2.bn2 fun _ _ _ _ _ _ _ _=>rfl),L2.bW KX G ∅ ∅ ∅ ∅ (L2.bn3 fun _ _ _ _ _ _ _ _ _=>rfl),L2.bW KX G ∅ ∅ ∅ ∅ (L2.bn2 fun _ _ _ _ _ _ _ _=>rfl),L2.bW KX G ∅ ∅ ∅ ∅ (L2.bn5 fun _ _ _ _ _ _ _ _ _ _ _=>rfl),L2.bW KX G ∅ ∅ ∅ ∅ (L2.bn1 fun _ _ _ _ _ _ _=>rfl),L2.bW KX G ∅ ∅ ∅ ∅ (L2.bn1 fun _ _ _ _ _ _ _=>rfl),PySem.W.mg_none_of KX G ∅,PySem.W.mg_none_of KX G ∅,PySem.W.mg_none_of KX G ∅,PySem.W.mg_none_of KX G ∅,PySem.W.mg_none_of KX G ∅,PySem.W.mg_none_of KX G ∅,PySem.W.mg_none_of KX G ∅,PySem.W.mg_none_of KX G ∅,PySem.W.mg_none_of KX G ∅,PySem.W.mg_none_of KX G ∅,PySem.W.mg_none_of KX G ∅⟩⟩
