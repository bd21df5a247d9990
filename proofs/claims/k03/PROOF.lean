import PyProof.Rows.All
import Wide.All
import OpenK.AllK
import PyProof.StrLawsTight
import PyProof.StrLawsChain
import PyProof.Rows.StrItems
import PyProof.StrCalls2
import KE.KIntText
import PyProof.StrWalks
import KE.KTryMore
import OpenK.KOwn
import PyProof.NsDelKeeps
import KE.KIsAll
import PyProof.ReprRoads
import PyProof.FString
import PyProof.ReprLen
import PyProof.ReprStr
import PyProof.StrLawsRepr
import PyProof.Rows.FStr
import PySem.Challenge.RW_deedloom_k03_lines_that_write_none
set_option genSizeOf false
set_option compiler.extract_closed false
set_option Elab.async false
set_option linter.all false
set_option maxRecDepth 100000
local macro_rules|`($d:definition)=>`(noncomputable $d:definition)
local macro_rules|`(tactic|omega)=>`(tactic|first|assumption|lia|omega +splitNatSub)
noncomputable section
set_option linter.all false
namespace Zq
open PySem
def zq0:=@if_neg
def zq1:=@if_pos
def zq2:=@List.length_map
def zq3:=@sizeLine_eq
def zq4:=@List.mem_cons
def zq5:=@decide_eq_true
def zq6:=@decide_eq_false
def zq7:=@wpAny_bind
def zq8:=@Bool.false_ne_true
def zq9:=@Nat.le_refl
def zq10:=@List.mem_append
def bH:=@List.mem_cons_of_mem
def bI:=@List.map_append
def bP:=@Heap.lt_size
def bV:=@List.mem_cons_self
def zq15:=@List.mem_singleton
def cf:=@List.length_append
def zq17:=@List.getElem?_eq_some_iff
def cu:=@wpAny_pure
def cz:=@Heap.get?_push_of_some
def cA:=@List.getElem?_map
def cB:=@Int.emod_nonneg
def cF:=@List.length_cons
def cZ:=@Nat.ne_of_lt
def d4:=@Int.emod_lt_of_pos
def d8:=@List.mem_append_right
def df:=@List.size_toArray
def zq27:=@List.nodup_cons
def dr:=@List.mem_of_getElem?
def dI:=@List.getElem?_eq_getElem
def dW:=@Bool.false_and
def dX:=@List.map_cons
def zq32:=@List.all_eq_true
def el:=@Nat.lt_of_lt_of_le
def er:=@Heap.get?_push_size
def eC:=@Nat.zero_le
def eD:=@Bool.and_eq_true
def zq37:=@List.mem_map
def eQ:=@Int.toNat_natCast
def fO:=@wpAny_mono
def fP:=@List.take_succ_eq_append_getElem
def fQ:=@List.take_length
def gf:=@Nat.le_trans
def gg:=@List.append_nil
def gh:=@List.length_take
def gi:=@List.length_singleton
def zq46:=@Option.map_eq_some_iff
def i3:=@Heap.get?_update_other
def i4:=@Int.eq_ofNat_of_zero_le
def i9:=@Bool.true_and
def zq50:=@List.mem_range
def jx:=@List.mem_append_left
def jy:=@List.length_drop
def jz:=@Int.one_mul
def kJ:=@wpAny_holding
def kK:=@Bool.eq_iff_iff
def kL:=@List.any_cons
def me:=@Nat.lt_irrefl
def mf:=@List.map_map
def zq59:=@List.length_pos_iff
def mh:=@List.append_assoc
def mi:=@Nat.pow_le_pow_right
def zq62:=@Bool.eq_false_iff
def pC:=@List.getElem?_set_self
def pD:=@List.getElem?_set_ne
def zq65:=@beq_iff_eq
def pE:=@List.all_cons
def pF:=@Bool.and_false
def pG:=@List.getElem_mem
def pH:=@List.map_drop
def sV:=@List.length_set
def sW:=@List.getD_eq_getElem?_getD
def sX:=@Nat.min_eq_left
def sY:=@List.take_of_length_le
def zq74:=@List.nodup_append
def sZ:=@List.cons_append
def t8:=@List.reverse_cons
def zq77:=@Array.getElem?_eq_some_iff
def t9:=@Bool.false_or
def tf:=@List.mem_of_mem_drop
def tj:=@List.mem_of_mem_take
def tq:=@List.map_take
def uY:=@Heap.size_push
def uZ:=@Nat.lt_succ_self
def v0:=@Nat.le_succ
def v1:=@Heap.get?_update_self
def v2:=@Array.getElem?_toList
def v3:=@List.lookup_cons
def v4:=@Bool.or_eq_true
def v5:=@Nat.min_eq_right
def v6:=@List.drop_of_length_le
def v8:=@List.sublist_append_left
def v9:=@List.length_reverse
def z5:=@Nat.le_of_lt
def z6:=@List.filterMap_cons
def z7:=@Heap.get?_none_of_le
def z8:=@Nat.ne_of_gt
def z9:=@Nat.le_of_eq
def za:=@List.of_mem_zip
def zb:=@List.getElem?_append_right
def sJ:=@Int.zero_add
def sL:=@Bool.true_or
def sM:=@List.nodup_nil
def sN:=@codeAny_builtin
def sO:=@Array.toList_append
def sP:=@List.getElem?_eq_none
def sQ:=@List.nil_append
def sR:=@List.perm_append_comm
def sS:=@Nat.not_lt_zero
def sU:=@Bool.and_true
def wy:=@List.getElem?_replicate
def wz:=@List.getElem?_append_left
def wA:=@List.length_replicate
def wB:=@List.getElem?_cons_succ
def zq114:=@Option.bind_eq_some_iff
def wC:=@List.getElem?_toArray
def zq116:=@List.length_eq_zero_iff
def wD:=@List.drop_eq_nil_of_le
def wF:=@List.take_append_drop
section
variable{Q R S T U V W X Y Z:Type}
theorem zn{A B:Q->Prop}(a):A a->B a->∃a,A a/\B a:=(⟨a,·,·⟩)
theorem zAA{A B C:Q->R->Prop}(a b):A a b->B a b->C a b->∃a b,A a b/\B a b/\C a b:=(⟨a,b,·,·,·⟩)
theorem zAB{A B C:Prop}:A->B->C->A/\B/\C:=(⟨·,·,·⟩)
theorem zAC{A B C D:Q->R->Prop}(a b):A a b->B a b->C a b->D a b->∃a b,A a b/\B a b/\C a b/\D a b:=(⟨a,b,·,·,·,·⟩)
theorem zAD{A B C:Q->Prop}(a):A a->B a->C a->∃a,A a/\B a/\C a:=(⟨a,·,·,·⟩)
theorem zAE{A B:Q->R->Prop}(a b):A a b->B a b->∃a b,A a b/\B a b:=(⟨a,b,·,·⟩)
theorem zAF{A B C D:Q->Prop}(a):A a->B a->C a->D a->∃a,A a/\B a/\C a/\D a:=(⟨a,·,·,·,·⟩)
theorem zAG{A B C D:Prop}:A->B->C->D->A/\B/\C/\D:=(⟨·,·,·,·⟩)
theorem zAH{A B C D E:Prop}:A->B->C->D->E->A/\B/\C/\D/\E:=(⟨·,·,·,·,·⟩)
theorem zAI{A B:Q->R->S->Prop}(a b c):A a b c->B a b c->∃a b c,A a b c/\B a b c:=(⟨a,b,c,·,·⟩)
theorem zAJ{A:Q->R->Prop}(a b):A a b->∃a b,A a b:=(⟨a,b,·⟩)
theorem zAK{A B C D E:Q->R->Prop}(a b):A a b->B a b->C a b->D a b->E a b->∃a b,A a b/\B a b/\C a b/\D a b/\E a b:=(⟨a,b,·,·,·,·,·⟩)
theorem zAL{A:Q->R->S->T->U->V->W->X->Prop}(a b c d e f g i):A a b c d e f g i->∃a b c d e f g i,A a b c d e f g i:=(⟨a,b,c,d,e,f,g,i,·⟩)
theorem zAM{A B C D:Q->R->S->Prop}(a b c):A a b c->B a b c->C a b c->D a b c->∃a b c,A a b c/\B a b c/\C a b c/\D a b c:=(⟨a,b,c,·,·,·,·⟩)
theorem zAN{A:Q->R->S->T->Prop}(a b c d):A a b c d->∃a b c d,A a b c d:=(⟨a,b,c,d,·⟩)
theorem zAO{A B:Q->R->S->T->Prop}(a b c d):A a b c d->B a b c d->∃a b c d,A a b c d/\B a b c d:=(⟨a,b,c,d,·,·⟩)
theorem zAP{A B C D E F:Prop}:A->B->C->D->E->F->A/\B/\C/\D/\E/\F:=(⟨·,·,·,·,·,·⟩)
theorem zAQ{A B C D E:Q->R->S->Prop}(a b c):A a b c->B a b c->C a b c->D a b c->E a b c->∃a b c,A a b c/\B a b c/\C a b c/\D a b c/\E a b c:=(⟨a,b,c,·,·,·,·,·⟩)
theorem zAR{A:Q->R->S->Prop}(a b c):A a b c->∃a b c,A a b c:=(⟨a,b,c,·⟩)
theorem zAS{A B C D E:Q->R->S->T->Prop}(a b c d):A a b c d->B a b c d->C a b c d->D a b c d->E a b c d->∃a b c d,A a b c d/\B a b c d/\C a b c d/\D a b c d/\E a b c d:=(⟨a,b,c,d,·,·,·,·,·⟩)
theorem zAT{A:Q->R->S->T->U->Prop}(a b c d e):A a b c d e->∃a b c d e,A a b c d e:=(⟨a,b,c,d,e,·⟩)
theorem zAU{A B C:Q->R->S->Prop}(a b c):A a b c->B a b c->C a b c->∃a b c,A a b c/\B a b c/\C a b c:=(⟨a,b,c,·,·,·⟩)
theorem zAV{A B C D E F H:Prop}:A->B->C->D->E->F->H->A/\B/\C/\D/\E/\F/\H:=(⟨·,·,·,·,·,·,·⟩)
theorem zAW{A B C D E F:Q->R->S->Prop}(a b c):A a b c->B a b c->C a b c->D a b c->E a b c->F a b c->∃a b c,A a b c/\B a b c/\C a b c/\D a b c/\E a b c/\F a b c:=(⟨a,b,c,·,·,·,·,·,·⟩)
theorem zAX{A:Q->R->S->T->U->V->W->X->Y->Prop}(a b c d e f g i j):A a b c d e f g i j->∃a b c d e f g i j,A a b c d e f g i j:=(⟨a,b,c,d,e,f,g,i,j,·⟩)
theorem zAY{A B C D E:Q->R->S->T->U->V->W->Prop}(a b c d e f g):A a b c d e f g->B a b c d e f g->C a b c d e f g->D a b c d e f g->E a b c d e f g->∃a b c d e f g,A a b c d e f g/\B a b c d e f g/\C a b c d e f g/\D a b c d e f g/\E a b c d e f g:=(⟨a,b,c,d,e,f,g,·,·,·,·,·⟩)
theorem zAZ{A B:Q->R->S->T->U->V->W->Prop}(a b c d e f g):A a b c d e f g->B a b c d e f g->∃a b c d e f g,A a b c d e f g/\B a b c d e f g:=(⟨a,b,c,d,e,f,g,·,·⟩)
theorem zBA{A B C D E F H I J K:Prop}:A->B->C->D->E->F->H->I->J->K->A/\B/\C/\D/\E/\F/\H/\I/\J/\K:=(⟨·,·,·,·,·,·,·,·,·,·⟩)
theorem zBB{A B C D E F H:Q->R->S->T->U->V->W->X->Prop}(a b c d e f g i):A a b c d e f g i->B a b c d e f g i->C a b c d e f g i->D a b c d e f g i->E a b c d e f g i->F a b c d e f g i->H a b c d e f g i->∃a b c d e f g i,A a b c d e f g i/\B a b c d e f g i/\C a b c d e f g i/\D a b c d e f g i/\E a b c d e f g i/\F a b c d e f g i/\H a b c d e f g i:=(⟨a,b,c,d,e,f,g,i,·,·,·,·,·,·,·⟩)
theorem zBC{A B C D E:Q->Prop}(a):A a->B a->C a->D a->E a->∃a,A a/\B a/\C a/\D a/\E a:=(⟨a,·,·,·,·,·⟩)
theorem zBD{A B C D E F:Q->R->Prop}(a b):A a b->B a b->C a b->D a b->E a b->F a b->∃a b,A a b/\B a b/\C a b/\D a b/\E a b/\F a b:=(⟨a,b,·,·,·,·,·,·⟩)
theorem zBE{A B C D E F:Q->R->S->T->U->Prop}(a b c d e):A a b c d e->B a b c d e->C a b c d e->D a b c d e->E a b c d e->F a b c d e->∃a b c d e,A a b c d e/\B a b c d e/\C a b c d e/\D a b c d e/\E a b c d e/\F a b c d e:=(⟨a,b,c,d,e,·,·,·,·,·,·⟩)
theorem zBF{A B C D E F H:Q->R->S->T->U->V->W->Prop}(a b c d e f g):A a b c d e f g->B a b c d e f g->C a b c d e f g->D a b c d e f g->E a b c d e f g->F a b c d e f g->H a b c d e f g->∃a b c d e f g,A a b c d e f g/\B a b c d e f g/\C a b c d e f g/\D a b c d e f g/\E a b c d e f g/\F a b c d e f g/\H a b c d e f g:=(⟨a,b,c,d,e,f,g,·,·,·,·,·,·,·⟩)
theorem zBG{A B C D:Q->R->S->T->U->V->W->Prop}(a b c d e f g):A a b c d e f g->B a b c d e f g->C a b c d e f g->D a b c d e f g->∃a b c d e f g,A a b c d e f g/\B a b c d e f g/\C a b c d e f g/\D a b c d e f g:=(⟨a,b,c,d,e,f,g,·,·,·,·⟩)
theorem zBH{A:Q->R->S->T->U->V->W->Prop}(a b c d e f g):A a b c d e f g->∃a b c d e f g,A a b c d e f g:=(⟨a,b,c,d,e,f,g,·⟩)
theorem zBI{A B C D E F H:Q->R->S->T->U->Prop}(a b c d e):A a b c d e->B a b c d e->C a b c d e->D a b c d e->E a b c d e->F a b c d e->H a b c d e->∃a b c d e,A a b c d e/\B a b c d e/\C a b c d e/\D a b c d e/\E a b c d e/\F a b c d e/\H a b c d e:=(⟨a,b,c,d,e,·,·,·,·,·,·,·⟩)
theorem zBJ{A B C D E F H I J:Prop}:A->B->C->D->E->F->H->I->J->A/\B/\C/\D/\E/\F/\H/\I/\J:=(⟨·,·,·,·,·,·,·,·,·⟩)
theorem zBK{A B C D E F H I:Prop}:A->B->C->D->E->F->H->I->A/\B/\C/\D/\E/\F/\H/\I:=(⟨·,·,·,·,·,·,·,·⟩)
theorem zBL{A B C D E F H I J K L M:Prop}:A->B->C->D->E->F->H->I->J->K->L->M->A/\B/\C/\D/\E/\F/\H/\I/\J/\K/\L/\M:=(⟨·,·,·,·,·,·,·,·,·,·,·,·⟩)
theorem zBM{A B C D E F H I J K L:Prop}:A->B->C->D->E->F->H->I->J->K->L->A/\B/\C/\D/\E/\F/\H/\I/\J/\K/\L:=(⟨·,·,·,·,·,·,·,·,·,·,·⟩)
theorem zBN{A:Q->R->S->T->U->V->Prop}(a b c d e f):A a b c d e f->∃a b c d e f,A a b c d e f:=(⟨a,b,c,d,e,f,·⟩)
end
section
variable{Q R S T:Type}{g:Prop}
theorem eQ02{A B C:Prop}(k:A->B->C->g)(h:A/\B/\C):g:=let ⟨hA,hB,hC⟩:=h;k hA hB hC
theorem eQ03{A B C D:Prop}(k:A->B->C->D->g)(h:A/\B/\C/\D):g:=let ⟨hA,hB,hC,hD⟩:=h;k hA hB hC hD
theorem eQ04{A B C D E:Prop}(k:A->B->C->D->E->g)(h:A/\B/\C/\D/\E):g:=let ⟨hA,hB,hC,hD,hE⟩:=h;k hA hB hC hD hE
theorem eQ11{A B:Q->Prop}(k:∀a,A a->B a->g)(h:∃a,A a/\B a):g:=let ⟨a,hA,hB⟩:=h;k a hA hB
theorem eQ12{A B C:Q->Prop}(k:∀a,A a->B a->C a->g)(h:∃a,A a/\B a/\C a):g:=let ⟨a,hA,hB,hC⟩:=h;k a hA hB hC
theorem eQ13{A B C D:Q->Prop}(k:∀a,A a->B a->C a->D a->g)(h:∃a,A a/\B a/\C a/\D a):g:=let ⟨a,hA,hB,hC,hD⟩:=h;k a hA hB hC hD
theorem eQ14{A B C D E:Q->Prop}(k:∀a,A a->B a->C a->D a->E a->g)(h:∃a,A a/\B a/\C a/\D a/\E a):g:=let ⟨a,hA,hB,hC,hD,hE⟩:=h;k a hA hB hC hD hE
theorem eQ20{A:Q->R->Prop}(k:∀a b,A a b->g)(h:∃a b,A a b):g:=let ⟨a,b,hA⟩:=h;k a b hA
theorem eQ21{A B:Q->R->Prop}(k:∀a b,A a b->B a b->g)(h:∃a b,A a b/\B a b):g:=let ⟨a,b,hA,hB⟩:=h;k a b hA hB
theorem eQ22{A B C:Q->R->Prop}(k:∀a b,A a b->B a b->C a b->g)(h:∃a b,A a b/\B a b/\C a b):g:=let ⟨a,b,hA,hB,hC⟩:=h;k a b hA hB hC
theorem eQ23{A B C D:Q->R->Prop}(k:∀a b,A a b->B a b->C a b->D a b->g)(h:∃a b,A a b/\B a b/\C a b/\D a b):g:=let ⟨a,b,hA,hB,hC,hD⟩:=h;k a b hA hB hC hD
theorem eQ24{A B C D E:Q->R->Prop}(k:∀a b,A a b->B a b->C a b->D a b->E a b->g)(h:∃a b,A a b/\B a b/\C a b/\D a b/\E a b):g:=let ⟨a,b,hA,hB,hC,hD,hE⟩:=h;k a b hA hB hC hD hE
theorem eQ30{A:Q->R->S->Prop}(k:∀a b c,A a b c->g)(h:∃a b c,A a b c):g:=let ⟨a,b,c,hA⟩:=h;k a b c hA
theorem eQ31{A B:Q->R->S->Prop}(k:∀a b c,A a b c->B a b c->g)(h:∃a b c,A a b c/\B a b c):g:=let ⟨a,b,c,hA,hB⟩:=h;k a b c hA hB
theorem eQ32{A B C:Q->R->S->Prop}(k:∀a b c,A a b c->B a b c->C a b c->g)(h:∃a b c,A a b c/\B a b c/\C a b c):g:=let ⟨a,b,c,hA,hB,hC⟩:=h;k a b c hA hB hC
theorem eQ33{A B C D:Q->R->S->Prop}(k:∀a b c,A a b c->B a b c->C a b c->D a b c->g)(h:∃a b c,A a b c/\B a b c/\C a b c/\D a b c):g:=let ⟨a,b,c,hA,hB,hC,hD⟩:=h;k a b c hA hB hC hD
theorem eQ34{A B C D E:Q->R->S->Prop}(k:∀a b c,A a b c->B a b c->C a b c->D a b c->E a b c->g)(h:∃a b c,A a b c/\B a b c/\C a b c/\D a b c/\E a b c):g:=let ⟨a,b,c,hA,hB,hC,hD,hE⟩:=h;k a b c hA hB hC hD hE
theorem eQ40{A:Q->R->S->T->Prop}(k:∀a b c d,A a b c d->g)(h:∃a b c d,A a b c d):g:=let ⟨a,b,c,d,hA⟩:=h;k a b c d hA
theorem eQ41{A B:Q->R->S->T->Prop}(k:∀a b c d,A a b c d->B a b c d->g)(h:∃a b c d,A a b c d/\B a b c d):g:=let ⟨a,b,c,d,hA,hB⟩:=h;k a b c d hA hB
theorem eQ42{A B C:Q->R->S->T->Prop}(k:∀a b c d,A a b c d->B a b c d->C a b c d->g)(h:∃a b c d,A a b c d/\B a b c d/\C a b c d):g:=let ⟨a,b,c,d,hA,hB,hC⟩:=h;k a b c d hA hB hC
theorem eQ43{A B C D:Q->R->S->T->Prop}(k:∀a b c d,A a b c d->B a b c d->C a b c d->D a b c d->g)(h:∃a b c d,A a b c d/\B a b c d/\C a b c d/\D a b c d):g:=let ⟨a,b,c,d,hA,hB,hC,hD⟩:=h;k a b c d hA hB hC hD
theorem eQ44{A B C D E:Q->R->S->T->Prop}(k:∀a b c d,A a b c d->B a b c d->C a b c d->D a b c d->E a b c d->g)(h:∃a b c d,A a b c d/\B a b c d/\C a b c d/\D a b c d/\E a b c d):g:=let ⟨a,b,c,d,hA,hB,hC,hD,hE⟩:=h;k a b c d hA hB hC hD hE
end
@[inline] def zTt(v:Option Lean.Term)(q:Array (Lean.TSyntax `Lean.Parser.Tactic.rcasesPatLo))(ps:Array (Lean.TSyntax `rintroPat)):Lean.MacroM (Lean.TSyntax `tactic):=do
 let n:=q.size
 let mut t<-match v with
  |none=>`(tactic|(intro h;rcases h with ⟨$q,*⟩))
  |some v=>`(tactic|rcases $v:term with ⟨$q,*⟩)
 if ps.size>0 then t<-`(tactic|$t:tactic<;>rintro $ps*)
 for s in [2:n] do
  let mut p:=#[]
  let mut hs:=#[]
  for x in q[:if s+1=n then n else s] do
   if x.raw[0][0].getNumArgs==1&&x.raw[0][0][0][0].getId==`rfl then
    let h:=Lean.mkIdent (<-Lean.MonadQuotation.addMacroScope (.mkSimple s!"h{hs.size}"))
    hs:=hs.push h
    p:=p.push (<-`(rintroPat|$h:ident))
   else p:=p.push (<-`(rintroPat|($x:rcasesPatLo)))
  if s+1<n then
   let r:=q[s:].toArray
   p:=p.push (<-`(rintroPat|⟨$r,*⟩))
  p:=p++ps
  let mut u<-`(tactic|rintro $p*)
  if hs.size>0 then u<-`(tactic|$u:tactic<;>subst $hs*)
  for i in [0:s+1] do
   if i<5&&s-i<5 then
    let nm:=Lean.mkIdent (.mkSimple s!"eQ{i}{s-i}")
    match v with
    |none=>t<-`(tactic|first|(refine $nm ?_;$u:tactic)|$t:tactic)
    |some v=>if v.raw.isIdent then t<-`(tactic|first|(refine $nm ?_ $v;(try clear $v);$u:tactic)|$t:tactic) else t<-`(tactic|first|(refine $nm ?_ $v;$u:tactic)|$t:tactic)
 pure t
theorem Jk{p:Prop}(h:p:=by decide +kernel):p:=h
theorem Jl{p:Prop}(h:p:=by kernel_rfl):p:=h
theorem Jm{p:Prop}(h:p:=by decide):p:=h
theorem Jn{p:Prop}(h:p:=by omega):p:=h
theorem Jo{p:Prop}(h:p:=by simp):p:=h
theorem Jp{p:Prop}(h:p:=by rfl):p:=h
end Zq
open Zq
local macro_rules|`(tactic|obtain ⟨$p,*⟩:=$v)=>if p.getElems.size<3 then Lean.Macro.throwUnsupported else zTt v p #[]
local macro_rules|`(tactic|rintro $p*)=>do
 let some t:=p.findIdx? fun x=>x.raw[0].isOfKind `Lean.Parser.Tactic.rcasesPat.tuple&&x.raw[0][1].getSepArgs.size>2|Lean.Macro.throwUnsupported
 let b<-zTt none (p[t]!.raw[0][1].getSepArgs.map (⟨·⟩)) p[t+1:].toArray
 let a:=p[:t].toArray
 if t>0 then `(tactic|(rintro $a*;$b:tactic)) else pure b
section
open PySem PySem.Spec PyProof.Rows
namespace L2
abbrev Key:=Sum Int Str
def vk:Key->Value->Bool
 | .inl k,v=>Value.isInt k v
 | .inr x,v=>Value.isStrOf x v
def AR(w:World):Key->Int
 | .inl k=>hashInt k
 | .inr x=>hashStr w x
theorem bA:∀{k:Key} {v:Value},vk k v=true->(∃i t,k=Sum.inl i/\v=Value.int i t)\/(∃x t,k=Sum.inr x/\v=Value.str x t)
 | .inl i,v,h=>by
  obtain ⟨t,e⟩:=Value.isInt_shape (k:=i) (v:=v) h;exact .inl (zAE i t rfl e)
 | .inr x,v,h=>by obtain ⟨t,e⟩:=Value.isStrOf_shape (x:=x) (v:=v) h;exact .inr (zAE x t rfl e)
theorem x8(a b:Int):decide ((Sum.inl a:Key)=Sum.inl b)=(a==b):=by
 by_cases e:a=b
 ·subst e;simp
 ·have h:¬(Sum.inl a:Key)=Sum.inl b:=fun q=>e (Sum.inl.inj q);rw [zq6 h];exact (beq_eq_false_iff_ne.mpr e).symm
theorem xc(a b:Str):decide ((Sum.inr a:Key)=Sum.inr b)=decide (a=b):=by
 by_cases e:a=b
 ·subst e;simp
 ·have h:¬(Sum.inr a:Key)=Sum.inr b:=fun q=>e (Sum.inr.inj q);rw [zq6 h,zq6 e]
theorem x9(a:Int)(b:Str):decide ((Sum.inl a:Key)=Sum.inr b)=false:=zq6 (fun q=>nomatch q)
theorem xb(a:Str)(b:Int):decide ((Sum.inr a:Key)=Sum.inl b)=false:=zq6 (fun q=>nomatch q)
def j9(prog:Program)(w:World):PySem.KeyKind prog w Key where
 is:=vk
 hash:=AR w
 inj:=fun v a b ha hb=>by
  rcases bA ha with ⟨i,t,rfl,rfl⟩ | ⟨x,t,rfl,rfl⟩
  ·rcases bA hb with ⟨j,u,rfl,e⟩ | ⟨y,u,rfl,e⟩
   ·injection e with e1 _;rw [e1]
   ·exact nomatch e
  ·rcases bA hb with ⟨j,u,rfl,e⟩ | ⟨y,u,rfl,e⟩
   ·exact nomatch e
   ·injection e with e1 _;rw [e1]
 byValue:=fun k v h=>by rcases bA h with ⟨i,t,rfl,rfl⟩ | ⟨x,t,rfl,rfl⟩<;>rfl
 pyHash:=fun hv h=>by
  rcases bA hv with ⟨i,t,rfl,rfl⟩ | ⟨x,t,rfl,rfl⟩
  ·exact wpAny_pyHash_int h
  ·exact wpAny_pyHash_str h
 eqBool:=fun hu hv h=>by
  rcases bA hu with ⟨i,t,rfl,rfl⟩ | ⟨x,t,rfl,rfl⟩
  ·rcases bA hv with ⟨j,u,rfl,rfl⟩ | ⟨y,u,rfl,rfl⟩
   ·rw [x8] at h;exact wpAny_eqBool_int h
   ·rw [x9] at h;exact SeqAt.EqAt.int_str i t y u _ _ _ _ h
  ·rcases bA hv with ⟨j,u,rfl,rfl⟩ | ⟨y,u,rfl,rfl⟩
   ·rw [xb] at h;exact SeqAt.EqAt.str_int x t j u _ _ _ _ h
   ·rw [xc] at h;exact wpAny_eqBool_str h
 «strs»:=fun k x t v h=>by
  rcases bA h with ⟨i,u,rfl,e⟩ | ⟨y,u,rfl,e⟩
  ·exact nomatch e
  ·injection e with e1 _;subst e1
   cases v<;>rfl
end L2
namespace L2
inductive V where
 |non | bl (b:Bool) | int (i:Int) | str (x:Str) | byt (b:Array UInt8) | flt (b:UInt64) | ref (a:Addr) | ty (n:String)
 deriving DecidableEq
def RelV:V->Value->Prop
 | .non,u=>u=Value.none
 | .bl b,u=>u=Value.bool b
 | .int i,u=>∃t,u=Value.int i t
 | .str x,u=>∃t,u=Value.str x t
 | .byt b,u=>∃t,u=Value.bytes b t
 | .flt b,u=>∃t,u=Value.float b t
 | .ref a,u=>u=Value.ref a
 | .ty n,u=>u=Value.type n
abbrev Vals:List V->List Value->Prop:=Paired RelV
theorem Vals.length{xs:List V}{us:List Value}(r:Vals xs us):xs.length=us.length:=Paired.length r
theorem Vals.get:∀{xs:List V} {us:List Value} {i:Nat} {x:V},Vals xs us->xs[i]?=some x->∃u,us[i]?=some u/\RelV x u
 |_,_,_,_,.nil,e=>by simp at e
 |_,_,0,_,.cons r _,e=>by simp at e;subst e;exact zn _ rfl r
 |_,_,i+1,x,.cons _ t,e=>by obtain ⟨u,h1,h2⟩:=Vals.get (i:=i) (x:=x) t (by simpa using e);exact zn u (by simpa using h1) h2
theorem Vals.set{x:V}{u:Value}(r:RelV x u):∀{xs:List V} {us:List Value} (i:Nat),Vals xs us->Vals (xs.set i x) (us.set i u)
 |_,_,_,.nil=>.nil
 |_,_,0,.cons _ t=>.cons r t
 |_,_,i+1,.cons q t=>.cons q (Vals.set r i t)
theorem Vals.append:∀{xs ys:List V} {us ws:List Value},Vals xs us->Vals ys ws->Vals (xs++ys) (us++ws)
 |_,_,_,_,.nil,s=>s
 |_,_,_,_,.cons r t,s=>.cons r (Vals.append t s)
theorem Vals.take:∀{xs:List V} {us:List Value} (n:Nat),Vals xs us->Vals (xs.take n) (us.take n)
 |_,_,0,_=>.nil
 |_,_,_+1,.nil=>.nil
 |_,_,n+1,.cons r t=>.cons r (Vals.take n t)
theorem Vals.drop:∀{xs:List V} {us:List Value} (n:Nat),Vals xs us->Vals (xs.drop n) (us.drop n)
 |_,_,0,r=>r
 |_,_,_+1,.nil=>.nil
 |_,_,n+1,.cons _ t=>Vals.drop n t
def RelO:Option V->Option Value->Prop
 |some v,some u=>RelV v u
 |none,none=>True
 |_,_=>False
def KV{κ:Type}:List (κ×V)->List (κ×Value)->Prop:=Paired fun (p:κ×V) (q:κ×Value)=>p.1=q.1/\RelV p.2 q.2
def kV:Key->V
 | .inl i=>.int i
 | .inr x=>.str x
inductive HO where
 /-- a list -/
 |lst (xs:List V)
 /-- a tuple (never changes) -/
 |tup (xs:List V)
 /-- a dict whose keys are ints and texts;one whose keys are tuples of ints and texts (the empty one is both) -/
 |dK (kvs:List (Key×V)) | dT (kvs:List (List Key×V))
 /-- a set of ints: its members,its size -/
 |set (S:Int->Bool) (n:Nat)
 /-- an instance of the class at C,its dict at dx,its attributes -/
 |ins (C dx:Addr) (fs:List (Str×V))
 /-- the dict of the instance at x -/
 |own (x:Addr)
 /-- the dict of an exception -/
 |xd (fs:List (Str×V))
 /-- a bound method,f of x -/
 |met (f x:Addr)
 /-- a range object lo,lo+1,.. below hi -/
 |rng (lo hi:Int)
 /-- a thing that is known to the object (the script;a dict while a loop walks it): read,never written while it is so -/
 |frz (o:Obj) (u:HO)
 /-- a code object's table -/
 |tbl (ps:Array Value)
 /-- any other thing,by what is true of its one object (a def of one's own: SetO a S n:=HO.ext fun h=>..) -/
 |ext (φ:Heap->Prop)
abbrev Hp:=Addr->Option HO
variable {u:HO}
def upd(H:Hp)(a:Addr)(o:HO):Hp:=fun b=>if b=a then some o else H b
theorem ae{H:Hp}{a:Addr}{o:HO}:upd H a o a=some o:=by unfold upd;rw [zq1 rfl]
theorem aE{H:Hp}{a b:Addr}{o:HO}(h:b≠a):upd H a o b=H b:=by unfold upd;rw [zq0 h]
theorem ej{H:Hp}{a:Addr}{o:HO}:upd (upd H a o) a u=upd H a u:=by funext b;unfold upd;split<;>rfl
theorem kc{H:Hp}{a b:Addr}{o:HO}(h:H a=some o)(h':H b=some u)(d:o≠u):a≠b:=by intro e;subst e;rw [h] at h';exact d (Option.some.inj h')
theorem aA{H:Hp}{a b:Addr}{o:HO}(h:H a=some o)(h':H b=none):a≠b:=by intro e;subst e;rw [h] at h';cases h'
section
variable (P:Program) (w:World)
def ObjOk(H:Hp)(h:Heap)(a:Addr):HO->Prop
 | .lst xs=>xs.length<=sizeLine/\∃(its:List Value)(n:Nat),Vals xs its/\h.get? a=some {cls:=.type "list",data:=.seq its.toArray n}
 | .tup xs=>xs.length<=sizeLine/\∃its:List Value,Vals xs its/\IsTup h a its.toArray
 | .dK kvs=>kvs.length<=sizeLine/\(a==sysModules)=false/\∃vs,KV kvs vs/\h.DictOf (j9 P w) a vs
 | .dT kvs=>kvs.length<=sizeLine/\(a==sysModules)=false/\∃xs:List (List Key×Addr×Value),
   Paired (fun (p:List Key×V) (q:List Key×Addr×Value)=>p.1=q.1/\H q.2.1=some (.tup (p.1.map kV))/\RelV p.2 q.2.2) kvs xs/\
   ∃o es ep,h.get? a=some o/\o.ExactDict/\o.data=.dict es ep/\es.toList=xs.map (entryOfKey (tupleKind (j9 P w)))/\(xs.map (·.1)).Nodup
 | .set S n=>h.SetOf (intKind P w) a S n
 | .ins C dx fs=>H dx=some (.own a)/\fs.length<=1000/\dx≠a/\h.get? a=some (W.instObj C dx)/\
   ∃mA,h.Ns1 dx mA/\(∀f,RelO (fs.lookup f) (mA f))/\PySem.Within mA (fs.map (·.1))
 | .own _=>∃o,h.get? a=some o
 | .xd fs=>∃mA,h.Ns1 a mA/\∀f,RelO (fs.lookup f) (mA f)
 | .rng lo hi=>∃t u v,h.get? a=some {cls:=.type "range",data:=.fields #[.int lo t,.int hi u,.int 1 v]}
 | .frz o u=>h.get? a=some o/\ObjOk H h a u
 | .tbl ps=>h.get? a=some {cls:=.none,data:=.fields ps}
 | .met f x=>h.get? a=some (W.methodObj (.ref f) (.ref x))
 | .ext φ=>φ h/\(∃o,h.get? a=some o)/\∀h1 h2:Heap,φ h1->(∀o,h1.get? a=some o->h2.get? a=some o)->φ h2
def HOk(H:Hp)(h:Heap):Prop:=∀a o,H a=some o->ObjOk P w H h a o
end
section
variable {P:Program} {w:World} {H H':Hp} {h h':Heap} {a:Addr} {o:HO}
theorem ObjOk.lt(x:ObjOk P w H h a o):a<h.objs.size:=by
 cases o with
 |lst xs=>obtain ⟨_,_,_,_,e⟩:=x;exact bP e
 |tup xs=>obtain ⟨_,_,_,p⟩:=x;exact p.lt
 |dK kvs=>obtain ⟨_,_,_,_,o,_,_,e,_⟩:=x;exact bP e
 |dT kvs=>obtain ⟨_,_,_,_,o,_,_,e,_⟩:=x;exact bP e
 |set S n=>obtain ⟨o,_,_,_,e,_⟩:=x;exact bP e
 |ins C dx fs=>obtain ⟨_,_,_,e,_⟩:=x;exact bP e
 |own y=>obtain ⟨_,e⟩:=x;exact bP e
 |xd fs=>obtain ⟨_,⟨_,_,_,e,_⟩,_⟩:=x;exact bP e
 |rng lo hi=>obtain ⟨_,_,_,e⟩:=x;exact bP e
 |frz ob u=>obtain ⟨e,_⟩:=x;exact bP e
 |tbl ps=>exact bP (show h.get? a=some _ from x)
 |met f y=>exact bP (show h.get? a=some _ from x)
 |ext φ=>obtain ⟨_,⟨_,e⟩,_⟩:=x;exact bP e
theorem Paired.mapP{α β:Type}{F G:α->β->Prop}:∀{l₁:List α} {l₂:List β},Paired F l₁ l₂->(∀a b,F a b->G a b)->Paired G l₁ l₂
 |_,_,.nil,_=>.nil
 |_,_,.cons r t,f=>.cons (f _ _ r) (Paired.mapP t f)
theorem ObjOk.stay(x:ObjOk P w H h a o)(k:∀b u,(b=a\/H b=some (.own a))->h.get? b=some u->h'.get? b=some u)
  (ho:∀b,H b=some (.own a)->H' b=some (.own a)) (ht:∀b xs,H b=some (.tup xs)->H' b=some (.tup xs)):ObjOk P w H' h' a o:=by
 induction o with
 |lst xs=>obtain ⟨z,its,n,r,e⟩:=x;exact ⟨z,zAE its n r (k _ _ (.inl rfl) e)⟩
 |tup xs=>obtain ⟨z,its,r,ob,e,c⟩:=x;exact ⟨z,zn its r (zn ob (k _ _ (.inl rfl) e) c)⟩
 |dK kvs=>obtain ⟨z,y,vs,r,ob,es,ep,e,c⟩:=x;exact zAB z y (zn vs r (zAI ob es ep (k _ _ (.inl rfl) e) c))
 |dT kvs=>
  obtain ⟨z,y,xs,r,ob,es,ep,e,c⟩:=x;exact zAB z y (zn xs (Paired.mapP r fun p q z=>zAB z.1 (ht _ _ z.2.1) z.2.2) (zAI ob es ep (k _ _ (.inl rfl) e) c))
 |set S n=>obtain ⟨ob,es,ep,t,e,c⟩:=x;exact zAO ob es ep t (k _ _ (.inl rfl) e) c
 |ins C dx fs=>
  obtain ⟨d,z,ne,e,mA,⟨od,es,ep,e2,c⟩,r⟩:=x;exact zAH (ho _ d) z ne (k _ _ (.inl rfl) e) (zn mA (zAI od es ep (k _ _ (.inr d) e2) c) r)
 |own y=>obtain ⟨ob,e⟩:=x;exact ⟨ob,k _ _ (.inl rfl) e⟩
 |xd fs=>obtain ⟨mA,⟨od,es,ep,e,c⟩,r⟩:=x;exact zn mA (zAI od es ep (k _ _ (.inl rfl) e) c) r
 |rng lo hi=>obtain ⟨t,u,v,e⟩:=x;exact zAR t u v (k _ _ (.inl rfl) e)
 |frz ob u ih=>obtain ⟨e,q⟩:=x;exact ⟨k _ _ (.inl rfl) e,ih q⟩
 |tbl ps=>
  have e:h.get? a=some {cls:=.none,data:=.fields ps}:=x;show h'.get? a=some {cls:=.none,data:=.fields ps};exact k a _ (.inl rfl) e
 |met f y=>
  have e:h.get? a=some (W.methodObj (.ref f) (.ref y)):=x;show h'.get? a=some (W.methodObj (.ref f) (.ref y));exact k a _ (.inl rfl) e
 |ext φ=>obtain ⟨p,⟨o,e⟩,st⟩:=x;exact zAB (st _ _ p fun o q=>k _ _ (.inl rfl) q) ⟨o,k _ _ (.inl rfl) e⟩ st
theorem HOk.lt(x:HOk P w H h)(e:H a=some o):a<h.objs.size:=(x a o e).lt
theorem HOk.fresh(x:HOk P w H h)(e:h.objs.size<=a):H a=none:=by
 cases q:H a with
 |none=>rfl
 |some u=>exact absurd (el (x.lt q) e) (me _)
theorem HOk.kept(x:HOk P w H h)(k:∀b u,h.get? b=some u->h'.get? b=some u):HOk P w H h':=fun a o e=>(x a o e).stay (fun b u _ q=>k b u q) (fun _ q=>q) fun _ _ q=>q
theorem HOk.laid(x:HOk P w H h)(k:∀b u,h.get? b=some u->h'.get? b=some u)(hp:h.objs.size<=a)(new:ObjOk P w (upd H a o) h' a o):HOk P w (upd H a o) h':=fun b u e=>by
 have hn:=x.fresh hp
 by_cases hb:b=a
 ·subst hb;rw [ae] at e;cases e;exact new
 ·rw [aE hb] at e;exact (x b u e).stay (fun c v _ q=>k c v q) (fun c q=>by rw [aE (aA q hn)];exact q) fun c xs q=>by rw [aE (aA q hn)];exact q
end
def Rd(H:Hp)(a:Addr)(u:HO):Prop:=H a=some u\/∃o,H a=some (.frz o u)
theorem Rd.ok{P:Program}{w:World}{H:Hp}{h:Heap}{a:Addr}(r:Rd H a u)(x:HOk P w H h):ObjOk P w H h a u:=by
 rcases r with r | ⟨o,r⟩
 ·exact x a u r
 ·obtain ⟨_,q⟩:=x a _ r;exact q
def Mut:Option HO->Prop
 |some (.lst _)=>True
 |some (.dK _)=>True
 |some (.dT _)=>True
 |some (.set _ _)=>True
 |some (.ins _ _ _)=>True
 |some (.ext _)=>True
 |_=>False
section
variable {P:Program} {w:World} {H:Hp} {h h':Heap} {x e:Addr} {o':HO}
theorem HOk.write(ok:HOk P w H h)(mu:Mut (H x))(he:e=x\/H e=some (.own x))(k:∀b u,b≠e->h.get? b=some u->h'.get? b=some u)(heo:∃u,h'.get? e=some u)
  (new:ObjOk P w (upd H x o') h' x o'):HOk P w (upd H x o') h':=fun b u q=>by
 have nown:∀c y,H c=some (.own y)->c≠x:=fun c y r z=>by subst z;rw [r] at mu;exact mu
 have ntup:∀c xs,H c=some (.tup xs)->c≠x:=fun c xs r z=>by subst z;rw [r] at mu;exact mu
 by_cases hb:b=x
 ·subst hb;rw [ae] at q;cases q;exact new
 ·rw [aE hb] at q
  by_cases hbe:b=e
  ·have q':H b=some (.own x):=by
    rcases he with z | z
    ·exact absurd (hbe.trans z) hb
    ·rw [hbe];exact z
   rw [q] at q';cases q';obtain ⟨v,hv⟩:=heo;exact ⟨v,by rw [hbe];exact hv⟩
  ·refine (ok b u q).stay (fun c v hc r=>k c v ?_ r) (fun c r=>by rw [aE (nown c b r)];exact r) fun c xs r=>by rw [aE (ntup c xs r)];exact r
   rcases hc with rfl | hc
   ·exact hbe
   ·rintro rfl;rcases he with z | z
    ·exact nown c b hc z
    ·rw [hc] at z;cases z;exact hb rfl
end
structure Un(fs ex:List Addr)(H H':Hp)(h h':Heap):Prop where
 keep:∀b o,h.get? b=some o->H b=none->b∉fs->b∉ex->h'.get? b=some o
 slot:∀b o,h.get? b=some o->H b=none->b∈fs->b∉ex->∃sl,h'.get? b=some {o with slots:=sl}
 free:∀b o,h.get? b=some o->H b=none->b∉ex->H' b=none
 there:∀b o,h.get? b=some o->b∉ex->∃o',h'.get? b=some o'
 tups:∀b xs,H b=some (.tup xs)->H' b=some (.tup xs)
 frzs:∀b o u,H b=some (.frz o u)->H' b=some (.frz o u)
 tbls:∀b ps,H b=some (.tbl ps)->∃more,H' b=some (.tbl (ps++more))
section
variable {fs fs' ex ex':List Addr} {H H1 H2:Hp} {h h1 h2 h':Heap} {a x e:Addr} {o:HO}
theorem Un.any(u:Un fs ex H H1 h h1){b:Addr}{ob:Obj}(q:h.get? b=some ob)(n:H b=none)(hx:b∉ex):∃sl,h1.get? b=some {ob with slots:=sl}:=by
 by_cases hb:b∈fs
 ·exact u.slot b ob q n hb hx
 ·exact ⟨ob.slots,u.keep b ob q n hb hx⟩
theorem Un.kept(k:∀b u,h.get? b=some u->h'.get? b=some u):Un fs ex H H h h':=
 ⟨fun b ob q _ _ _=>k b ob q,fun b ob q _ _ _=>⟨ob.slots,k b ob q⟩,fun _ _ _ n _=>n,fun b ob q _=>⟨ob,k b ob q⟩,fun _ _ q=>q,fun _ _ _ q=>q,fun _ ps q=>⟨#[],by rw [q];simp⟩⟩
theorem Un.refl:Un fs ex H H h h:=Un.kept fun _ _ q=>q
theorem Un.laid(k:∀b u,h.get? b=some u->h'.get? b=some u)(hp:h.objs.size<=a)(hn:H a=none):Un fs ex H (upd H a o) h h' where
 keep:=fun b u q _ _ _=>k b u q
 slot:=fun b u q _ _ _=>⟨u.slots,k b u q⟩
 free:=fun b u q n _=>by rw [aE (cZ (el (bP q) hp))];exact n
 there:=fun b u q _=>⟨u,k b u q⟩
 tups:=fun b xs q=>by rw [aE (aA q hn)];exact q
 frzs:=fun b u xs q=>by rw [aE (aA q hn)];exact q
 tbls:=fun b ps q=>⟨#[],by rw [aE (aA q hn),q];simp⟩
theorem Un.write(mu:Mut (H x))(he:e=x\/H e=some (.own x))(k:∀b u,b≠e->h.get? b=some u->h'.get? b=some u)(heo:∃u,h'.get? e=some u):Un fs ex H (upd H x o) h h':=by
 have hx:∀b,H b=none->b≠x:=fun b n z=>by subst z;rw [n] at mu;exact mu
 have hb:∀b,H b=none->b≠e:=fun b n z=>by
  subst z;rcases he with r | r
  ·exact hx b n r
  ·rw [n] at r;cases r
 have hm:∀b u,H b=some u->¬Mut (some u)->b≠x:=fun b u q nm z=>by subst z;rw [q] at mu;exact nm mu
 refine ⟨fun b u q n _ _=>k b u (hb b n) q,fun b u q n _ _=>⟨u.slots,k b u (hb b n) q⟩,fun b u q n _=>by rw [aE (hx b n)];exact n,fun b u q _=>?_,
  fun b xs q=>by rw [aE (hm b _ q fun z=>z)];exact q,fun b u xs q=>by rw [aE (hm b _ q fun z=>z)];exact q,fun b ps q=>⟨#[],by rw [aE (hm b _ q fun z=>z),q];simp⟩⟩
 by_cases hbe:b=e
 ·subst hbe;exact heo
 ·exact ⟨u,k b u hbe q⟩
end
def trk(h:Heap)(H:Hp):List Addr:=(List.range h.objs.size).filter fun a=>(H a).isSome
def j7(h:Heap)(H:Hp):Heap:=W.hideAll h (trk h H)
theorem oy(h:Heap)(H:Hp):(j7 h H).objs.size=h.objs.size:=W.hideAll_size _ _
theorem qy{h:Heap}{H:Hp}{b:Addr}{o:Obj}(e:h.get? b=some o)(n:H b=none):(j7 h H).get? b=some o:=
 W.hideAll_get _ e fun hm=>by have q:(H b).isSome=true:=(List.mem_filter.mp hm).2;rw [n] at q;simp at q
theorem ug{h:Heap}{H:Hp}{b:Addr}{o:Obj}(e:(j7 h H).get? b=some o):h.get? b=some o/\H b=none:=by
 have e':h.get? b=some o:=W.of_hideAll (trk h H) e;refine ⟨e',?_⟩
 cases q:H b with
 |none=>rfl
 |some x=>have hm:b∈trk h H:=List.mem_filter.mpr ⟨zq50.mpr (bP e'),by simp [q]⟩;have z:(j7 h H).get? b=none:=W.hideAll_none (trk h H) hm;rw [z] at e;cases e
def tF(g h:Heap)(L:Addr):List (Addr×Obj):=(List.range h.objs.size).filterMap fun a=>if a=L\/(g.get? a).isSome=true then none else (h.get? a).map fun o=>(a,o)
def dc(g h:Heap)(L d:Addr):List (Addr×Obj):=(tF g h L).filter fun p=>decide (p.1≠d)
end L2
namespace L2
structure Mod(K:W.Frag)(mg:Str->Option Value)(base:Heap):Prop where
 kin:K.In base
 glob:base.Ns mainGlobals mg
 blt:∃mb,base.Ns builtinsNs mb/\∀x:Str,x≠"__name__"->mb x=bootBuiltins x
 nolimit:base.NoLimit
structure Cx where
 prog:Program
 w:World
 K:W.Frag
 mg:Str->Option Value
 base:Heap
 A:Around
 N:List Str
 s₀:Shared
 H₀:Hp
 env:Env
 outer:List Env
 stack:List Env
 ex:List Addr
 fn:Str->Bool
 calm:Bool
 pn:List (Addr×Obj)
 xe:Value->Shared->Prop
def frs(l:List Env):List Addr:=l.filterMap (·.frame)
abbrev Cx.fs (X:Cx):List Addr:=frs X.outer
def Vis(sc:Scope)(x:Str):Prop:=sc.names.lookup x=some .local\/sc.names.lookup x=some .cell\/sc.names.lookup x=some .free
def Loc(sc:Scope)(x:Str):Prop:=sc.names.lookup x=some .local\/sc.names.lookup x=some .cell
def AL(env:Env)(h:Heap)(m:Str->Option Value)(x:Str)(u:Value):Prop:=
 (env.kindOf x=some .local/\m x=some u)\/((env.kindOf x=some .cell\/env.kindOf x=some .free)/\∃c,env.cells.lookup x=some c/\h.IsCell c (some u))
structure Cx.Ok(X:Cx):Prop where
 mod:Mod X.K X.mg X.base
 kind:X.env.scope.kind=.function
 glob:X.env.globals=mainGlobals
 blt:X.env.builtins=builtinsNs
 above:X.s₀.heap.objs.size<=X.env.locals
 inj:∀x y c,X.env.cells.lookup x=some c->X.env.cells.lookup y=some c->x=y
 has:∀x,(X.env.kindOf x=some .cell\/X.env.kindOf x=some .free)->∃c,X.env.cells.lookup x=some c
 cab:∀x c,X.fn x=true->X.env.cells.lookup x=some c->X.s₀.heap.objs.size<=c
 hd:X.calm=true->X.A.handled=none
 frames:X.A.frames=some X.stack
 stk:X.stack=X.outer\/(X.stack=X.env::X.outer/\X.env.frame=some X.env.locals)
 exf:∀b∈X.ex,b≠X.env.locals/\∀x c,X.env.cells.lookup x=some c->c≠b
 bs:∀b o,X.base.get? b=some o->X.s₀.heap.get? b=some o/\X.H₀ b=none
 bsz:X.base.objs.size<=X.s₀.heap.objs.size
 noex:∀b o,X.base.get? b=some o->b∉X.ex
 exfs:∀b∈X.ex,b∉X.fs
 funs:X.s₀.heap.FunFrames X.base X.outer
 frf:∀b∈X.fs,X.H₀ b=none
structure Inv(X:Cx)(pins:List (Addr×Obj))(σ:List (Option V))(H:Hp)(s:Shared):Prop where
 ok:X.Ok
 os:s.os=X.s₀.os
 bare:AllBare s.gens
 base:Un X.fs X.ex X.H₀ H X.s₀.heap s.heap
 loc:∃m,s.heap.Ns X.env.locals m/\∀(i:Nat)(x:Str)(v:V),X.N[i]?=some x->σ[i]?=some (some v)->Vis X.env.scope x->∃u,RelV v u/\AL X.env s.heap m x u
 cell:∀x c,X.env.cells.lookup x=some c->∃v,s.heap.IsCell c v
 free:H X.env.locals=none
 freeC:∀x c,X.env.cells.lookup x=some c->H c=none
 pin:∀p∈X.pn++pins,s.heap.get? p.1=some p.2/\H p.1=none/\p.1≠X.env.locals/\p.1∉X.fs/\∀v,p.2.data≠.cell v
 hok:HOk X.prog X.w H s.heap
 len:σ.length=X.N.length
section
variable {X:Cx} {pins:List (Addr×Obj)} {σ:List (Option V)} {H H':Hp} {s:Shared} {h':Heap}
theorem Cx.Ok.nofr(ok:X.Ok){b:Addr}{o:Obj}(e:X.base.get? b=some o):b∉X.fs:=fun hb=>by have:=(ok.funs.mem hb).1;rw [e] at this;cases this
theorem Inv.bs(I:Inv X pins σ H s):∀b o,X.base.get? b=some o->s.heap.get? b=some o/\H b=none:=fun b o e=>⟨I.base.keep b o (I.ok.bs b o e).1 (I.ok.bs b o e).2 (I.ok.nofr e) (I.ok.noex b o e),I.base.free b o (I.ok.bs b o e).1 (I.ok.bs b o e).2 (I.ok.noex b o e)⟩
theorem Inv.bk(I:Inv X pins σ H s):∀b o,X.base.get? b=some o->s.heap.get? b=some o:=fun b o e=>(I.bs b o e).1
theorem Inv.mod(I:Inv X pins σ H s):Mod X.K X.mg X.base:=I.ok.mod
theorem Inv.kIn(I:Inv X pins σ H s):X.K.In s.heap:=I.ok.mod.kin.keeps I.bk
theorem Inv.lt(I:Inv X pins σ H s):X.env.locals<s.heap.objs.size:=let ⟨_,hn,_⟩:=I.loc;hn.lt
theorem Inv.sz(I:Inv X pins σ H s):X.s₀.heap.objs.size<=s.heap.objs.size:=gf I.ok.above (z5 I.lt)
theorem Inv.nofs(I:Inv X pins σ H s){a:Addr}(h:s.heap.objs.size<=a):a∉X.fs:=fun hb=>by obtain ⟨_,o,ho,_⟩:=I.ok.funs.mem hb;exact absurd (el (bP ho) (gf I.sz h)) (me _)
theorem Inv.cne(I:Inv X pins σ H s):∀x c,X.env.cells.lookup x=some c->c≠X.env.locals:=fun x c e z=>by obtain ⟨v,o,ho,hd⟩:=I.cell x c e;obtain ⟨m,⟨o',es,ep,ho',hd',_⟩,_⟩:=I.loc;rw [z,ho'] at ho;cases ho;rw [hd'] at hd;cases hd
theorem Inv.funs(I:Inv X pins σ H s):s.heap.FunFrames X.base X.outer:=by
 have all:∀(l:List Env),(∀b∈frs l,b∈X.fs)->X.s₀.heap.FunFrames X.base l->s.heap.FunFrames X.base l:=by
  intro l
  induction l with
  |nil=>intro _ _;trivial
  |cons env r ih=>intro hs hl;obtain ⟨hk,⟨L,o,hf,hn,ho,hd⟩,hr⟩:=hl;have hL:L∈X.fs:=hs L (by unfold frs;rw [z6,hf];exact bV);obtain ⟨sl,e⟩:=I.base.slot L o ho (I.ok.frf L hL) hL fun z=>I.ok.exfs L z hL;exact zAB hk (zAC L _ hf hn e hd) (ih (fun b hb=>hs b (by unfold frs;rw [z6,hf];exact bH _ hb)) hr)
 exact all X.outer (fun _ hb=>hb) I.ok.funs
theorem Inv.stack(I:Inv X pins σ H s):s.heap.FunFrames X.base X.stack:=by
 rcases I.ok.stk with e | ⟨e,hf⟩
 ·rw [e];exact I.funs
 ·rw [e];obtain ⟨m,hn,_⟩:=I.loc;refine .cons (by rw [I.ok.kind];decide) hf hn ?_ I.funs;exact z7 (gf I.ok.bsz I.ok.above)
theorem Inv.stkSub(I:Inv X pins σ H s):∀b∈frs X.stack,b∈X.env.locals::X.fs:=fun b hb=>by
 rcases I.ok.stk with e | ⟨e,hf⟩
 ·rw [e] at hb;exact bH _ hb
 ·rw [e] at hb;unfold frs at hb;rw [z6,hf] at hb;exact hb
theorem Inv.stkFree(I:Inv X pins σ H s):∀b∈frs X.stack,H b=none:=fun b hb=>by
 rcases zq4.mp (I.stkSub b hb) with e | hb
 ·rw [e];exact I.free
 ·obtain ⟨_,o,ho,_⟩:=I.ok.funs.mem hb;exact I.base.free b o ho (I.ok.frf b hb) fun z=>I.ok.exfs b z hb
theorem Inv.step{g':Array GenState}{t':Nat}{d':Drawn}{ch:List Addr}(I:Inv X pins σ H s)
  (hch:∀b∈ch,(b∈X.ex\/X.s₀.heap.objs.size<=b)/\b≠X.env.locals/\(∀x c,X.env.cells.lookup x=some c->c≠b)/\∀p∈X.pn++pins,p.1≠b)
  (keep:∀b o,b≠X.env.locals->b∉X.fs->b∉ch->s.heap.get? b=some o->H b=none->h'.get? b=some o)
  (slot:∀b o,b≠X.env.locals->b∈X.fs->b∉ch->s.heap.get? b=some o->H b=none->∃sl,h'.get? b=some {o with slots:=sl}) (free:∀b o,b∉ch->s.heap.get? b=some o->H b=none->H' b=none)
  (there:∀b o,b∉ch->s.heap.get? b=some o->∃o',h'.get? b=some o')
  (tups:∀b xs,H b=some (.tup xs)->H' b=some (.tup xs)) (frzs:∀b o u,H b=some (.frz o u)->H' b=some (.frz o u)) (tbls:∀b ps,H b=some (.tbl ps)->∃more,H' b=some (.tbl (ps++more)))
  (ns:∀m,s.heap.Ns X.env.locals m->h'.Ns X.env.locals m) (hok:HOk X.prog X.w H' h') (hg:AllBare g') :
  Inv X pins σ H' {s with heap:=h',gens:=g',drawn:=d',toks:=t'}:=by
 have neL:∀b o,X.s₀.heap.get? b=some o->b≠X.env.locals:=fun b o e=>cZ (el (bP e) I.ok.above);have neC:∀b o,X.s₀.heap.get? b=some o->b∉X.ex->b∉ch:=fun b o e hx hb=>by
  rcases (hch b hb).1 with z | z
  ·exact hx z
  ·exact absurd (el (bP e) z) (me _)
 have cellK:∀x c,X.env.cells.lookup x=some c->∀v,s.heap.IsCell c v->h'.IsCell c v:=fun x c e v ⟨o,ho,hd⟩=>by
  have nch:c∉ch:=fun z=>(hch c z).2.2.1 x c e rfl
  by_cases hc:c∈X.fs
  ·obtain ⟨sl,q⟩:=slot c o (I.cne x c e) hc nch ho (I.freeC x c e);exact zn _ q hd
  ·exact zn o (keep c o (I.cne x c e) hc nch ho (I.freeC x c e)) hd
 refine ⟨I.ok,I.os,hg,⟨fun b o e n hb hx=>?_,fun b o e n hb hx=>?_,fun b o e n hx=>?_,fun b o e hx=>?_,fun b xs e=>tups b xs (I.base.tups b xs e),fun b o xs e=>frzs b o xs (I.base.frzs b o xs e),fun b ps e=>?_⟩,?_,fun x c e=>?_,?_,fun x c e=>?_,fun p hp=>?_,hok,I.len⟩
 ·exact keep b o (neL b o e) hb (neC b o e hx) (I.base.keep b o e n hb hx) (I.base.free b o e n hx)
 ·obtain ⟨sl,e1⟩:=I.base.slot b o e n hb hx;obtain ⟨sl',e2⟩:=slot b _ (neL b o e) hb (neC b o e hx) e1 (I.base.free b o e n hx);exact ⟨sl',e2⟩
 ·obtain ⟨o',e1⟩:=I.base.there b o e hx;exact free b o' (neC b o e hx) e1 (I.base.free b o e n hx)
 ·obtain ⟨o',e1⟩:=I.base.there b o e hx;exact there b o' (neC b o e hx) e1
 ·obtain ⟨m1,e1⟩:=I.base.tbls b ps e;obtain ⟨m2,e2⟩:=tbls b _ e1;exact ⟨m1++m2,by rw [e2,Array.append_assoc]⟩
 ·obtain ⟨m,hn,hl⟩:=I.loc;refine zn m (ns m hn) fun i x v e1 e2 e3=>?_;obtain ⟨u,r,l⟩:=hl i x v e1 e2 e3;refine zn u r ?_;rcases l with l | ⟨k,c,e,z⟩
  ·exact .inl l
  ·exact .inr ⟨k,zn c e (cellK x c e _ z)⟩
 ·obtain ⟨v,z⟩:=I.cell x c e;exact ⟨v,cellK x c e v z⟩
 ·obtain ⟨m,⟨o,_,_,ho,_⟩,_⟩:=I.loc;exact free _ o (fun z=>(hch _ z).2.1 rfl) ho I.free
 ·obtain ⟨v,o,ho,hd⟩:=I.cell x c e;exact free c o (fun z=>(hch c z).2.2.1 x c e rfl) ho (I.freeC x c e)
 ·obtain ⟨e,n,ne,nf,d⟩:=I.pin p hp;have nch:p.1∉ch:=fun z=>(hch p.1 z).2.2.2 p hp rfl;exact zAH (keep p.1 p.2 ne nf nch e n) (free p.1 p.2 nch e n) ne nf d
theorem Inv.un{t':Nat}(I:Inv X pins σ H s)(u:Un X.fs [] H H' s.heap h')(hok:HOk X.prog X.w H' h'):Inv X pins σ H' {s with heap:=h',toks:=t'}:=by obtain ⟨m,⟨o,es,ep,ho,r⟩,_⟩:=id I.loc;obtain ⟨sl,hL⟩:=u.any ho I.free Jo;exact I.step (g':=s.gens) (d':=s.drawn) (ch:=[]) (fun _ z=>nomatch z) (fun b o _ hb _ e n=>u.keep b o e n hb Jo) (fun b o _ hb _ e n=>u.slot b o e n hb Jo) (fun b o _ e n=>u.free b o e n Jo) (fun b o _ e=>u.there b o e Jo) u.tups u.frzs u.tbls (fun m' hm=>by obtain ⟨o',es',ep',ho',r'⟩:=hm;rw [ho] at ho';cases ho';exact zAI _ es' ep' hL r') hok I.bare
theorem Inv.call{g':Array GenState}{t':Nat}{d':Drawn}{ch:List Addr}(I:Inv X pins σ H s)(u:Un (frs X.stack) ch H H' s.heap h')(hok:HOk X.prog X.w H' h')(hg:AllBare g')
  (hch:∀b∈ch,(b∈X.ex\/X.s₀.heap.objs.size<=b)/\b≠X.env.locals/\(∀x c,X.env.cells.lookup x=some c->c≠b)/\∀p∈X.pn++pins,p.1≠b) :
  Inv X pins σ H' {s with heap:=h',gens:=g',drawn:=d',toks:=t'}:=by
 obtain ⟨m,⟨o,es,ep,ho,r⟩,_⟩:=id I.loc;obtain ⟨sl,hL⟩:=u.any ho I.free fun z=>(hch _ z).2.1 rfl;exact I.step (ch:=ch) hch (fun b o hL hb hc e n=>u.keep b o e n (fun z=>(zq4.mp (I.stkSub b z)).elim hL hb) hc) (fun b o _ _ hc e n=>u.any e n hc) (fun b o hc e n=>u.free b o e n hc) (fun b o hc e=>u.there b o e hc) u.tups u.frzs u.tbls (fun m' hm=>by obtain ⟨o',es',ep',ho',r'⟩:=hm;rw [ho] at ho';cases ho';exact zAI _ es' ep' hL r') hok hg
theorem Inv.turned{t':Nat}{it:Addr}(I:Inv X pins σ H s)(k:∀b o,b≠it->s.heap.get? b=some o->h'.get? b=some o)(hn:H it=none)(hL:it≠X.env.locals)
  (h1:it∈X.ex\/X.s₀.heap.objs.size<=it) (h2:∀x c,X.env.cells.lookup x=some c->c≠it) (h3:∀p∈X.pn++pins,p.1≠it):Inv X pins σ H {s with heap:=h',toks:=t'}:=by
 have nit:∀b u,H b=some u->b≠it:=fun b u e z=>by rw [z,hn] at e;cases e
 refine I.step (g':=s.gens) (d':=s.drawn) (ch:=[it]) (fun b hb=>?_) (fun b o _ _ hc e _=>k b o (fun z=>hc (by simp [z])) e) (fun b o _ _ hc e _=>⟨o.slots,k b o (fun z=>hc (by simp [z])) e⟩) (fun _ _ _ _ n=>n)
  (fun b o hc e=>⟨o,k b o (fun z=>hc (by simp [z])) e⟩) (fun _ _ e=>e) (fun _ _ _ e=>e) (fun b ps e=>⟨#[],by rw [e];simp⟩) (fun m hm=>?_) (fun b u e=>?_) I.bare
 ·have e:b=it:=by simpa using hb
  subst e;exact zAG h1 hL h2 h3
 ·obtain ⟨o,es,ep,ho,r⟩:=hm;exact zAI o es ep (k _ o (Ne.symm hL) ho) r
 ·refine (I.hok b u e).stay (fun c v hc q=>k c v ?_ q) (fun _ q=>q) fun _ _ q=>q;rcases hc with z | z
  ·rw [z];exact nit b u e
  ·exact nit c _ z
theorem Inv.tok(I:Inv X pins σ H s)(t:Nat):Inv X pins σ H {s with toks:=t}:=I.un (h':=s.heap) (t':=t) Un.refl I.hok
theorem Inv.kept{t':Nat}(I:Inv X pins σ H s)(k:∀b u,s.heap.get? b=some u->h'.get? b=some u):Inv X pins σ H {s with heap:=h',toks:=t'}:=I.un (Un.kept k) (I.hok.kept k)
theorem Inv.laid{a:Addr}{o:HO}{t':Nat}(I:Inv X pins σ H s)(k:∀b u,s.heap.get? b=some u->h'.get? b=some u)(hp:s.heap.objs.size<=a)(new:ObjOk X.prog X.w (upd H a o) h' a o):
  Inv X pins σ (upd H a o) {s with heap:=h',toks:=t'}:=I.un (Un.laid k hp (I.hok.fresh hp)) (I.hok.laid k hp new)
theorem Inv.write{x e:Addr}{o:HO}{t':Nat}(I:Inv X pins σ H s)(mu:Mut (H x))(he:e=x\/H e=some (.own x))(k:∀b u,b≠e->s.heap.get? b=some u->h'.get? b=some u)(heo:∃u,h'.get? e=some u)
  (new:ObjOk X.prog X.w (upd H x o) h' x o):Inv X pins σ (upd H x o) {s with heap:=h',toks:=t'}:=I.un (Un.write mu he k heo) (I.hok.write mu he k heo new)
theorem Inv.pins_of{pins':List (Addr×Obj)}(I:Inv X pins σ H s)(h:∀p∈pins',s.heap.get? p.1=some p.2/\H p.1=none/\p.1≠X.env.locals/\p.1∉X.fs/\∀v,p.2.data≠.cell v):Inv X pins' σ H s:=
 ⟨I.ok,I.os,I.bare,I.base,I.loc,I.cell,I.free,I.freeC,fun p hp=>(zq10.mp hp).elim (fun z=>I.pin p (jx _ z)) (h p),I.hok,I.len⟩
theorem gO{N:List Str}(hN:N.Nodup){i j:Nat}{x:Str}(a:N[i]?=some x)(b:N[j]?=some x):i=j:=by obtain ⟨h1,e1⟩:=zq17.mp a;obtain ⟨h2,e2⟩:=zq17.mp b;exact (List.getElem_inj hN).mp (e1.trans e2.symm)
theorem oW{M:Model}{A:Around}{E:Value->Shared->Prop}{i:Nat}{x:Str}{v:V}{u:Value}{Q:Unit->Shared->Prop}(I:Inv X pins σ H s)(hN:X.N.Nodup)(hi:X.N[i]?=some x)(hx:Loc X.env.scope x)(r:RelV v u)
  (h:∀s',Inv X pins (σ.set i (some v)) H s'->(∃a,Heap.SameBut a s.heap s'.heap/\(a=X.env.locals\/X.env.cells.lookup x=some a))->Q () s') (hf:X.fn x=true\/X.env.scope.names.lookup x=some .local:=by first | exact .inl rfl | exact .inr rfl | assumption):wpAny M A (storeName X.env x u) Q E s:=by
 obtain ⟨m,hn,hl⟩:=id I.loc;have hcls:(X.env.scope.kind==.class || (X.env.scope.kind==.module&&X.env.locals != X.env.globals))=false:=by rw [I.ok.kind];rfl
 have hiσ:i<σ.length:=by rw [I.len];exact (zq17.mp hi).1
 have cne:=I.cne;have tracked:∀{a:Addr} {h':Heap},(∃o,s.heap.get? a=some o/\H a=none)->Heap.SameBut a s.heap h'->HOk X.prog X.w H h':=fun {a h'} ha hs b ob e=>by
  obtain ⟨_,_,hfree⟩:=ha;refine (I.hok b ob e).stay (fun c w' hc q=>(hs.2 c ?_).trans q) (fun _ q=>q) fun _ _ q=>q;rintro rfl;rcases hc with rfl | hc
  ·rw [hfree] at e;cases e
  ·rw [hfree] at hc;cases hc
 rcases hx with hk | hk
 ·refine wpAny_storeName_local hk hn (fun h' hn' hs=>?_) hcls;obtain ⟨oL,_,_,hoL,_⟩:=id hn;refine h _ ⟨I.ok,I.os,I.bare,⟨fun b o e n hb hx=>?_,fun b o e n hb hx=>?_,I.base.free,fun b o e hx=>?_,I.base.tups,I.base.frzs,I.base.tbls⟩,zn _ hn' fun j y v' e1 e2 e3=>?_,fun y c e=>?_,I.free,I.freeC,fun p hp=>?_,tracked (zn oL hoL I.free) hs,by simpa using I.len⟩ (zn _ hs (.inl rfl))
  ·exact (hs.2 b (cZ (el (bP e) I.ok.above))).trans (I.base.keep b o e n hb hx)
  ·obtain ⟨sl,e1⟩:=I.base.slot b o e n hb hx;exact ⟨sl,(hs.2 b (cZ (el (bP e) I.ok.above))).trans e1⟩
  ·obtain ⟨o',e1⟩:=I.base.there b o e hx;exact ⟨o',(hs.2 b (cZ (el (bP e) I.ok.above))).trans e1⟩
  ·by_cases hj:j=i
   ·subst hj;rw [hi] at e1;cases e1;rw [pC hiσ] at e2
    cases e2
    exact zn u r (.inl ⟨hk,Jo⟩)
   ·rw [pD (Ne.symm hj)] at e2;obtain ⟨u',r',q⟩:=hl j y v' e1 e2 e3;refine zn u' r' ?_;rcases q with ⟨k,e⟩ | ⟨k,c,e,z⟩
    ·refine .inl ⟨k,?_⟩;have:y≠x:=fun e=>hj (gO hN e1 (e ▸ hi));simp [this,e]
    ·exact .inr ⟨k,zn c e (z.sameBut hs (cne y c e))⟩
  ·obtain ⟨w',z⟩:=I.cell y c e;exact ⟨w',z.sameBut hs (cne y c e)⟩
  ·obtain ⟨e,n,ne,nf,d⟩:=I.pin p hp;exact zAH ((hs.2 p.1 ne).trans e) n ne nf d
 ·have hfn:X.fn x=true:=by
   rcases hf with z | z
   ·exact z
   ·rw [z] at hk;cases hk
  obtain ⟨c,hc⟩:=I.ok.has x (.inl hk);obtain ⟨w',z⟩:=I.cell x c hc;refine wpAny_storeName_cell I.ok.kind hk hc z (fun h' hc' hs=>?_);obtain ⟨oc,hoc,hocd⟩:=id z;refine h {s with heap:=h'} ⟨I.ok,I.os,I.bare,⟨fun b o e n hb hx=>?_,fun b o e n hb hx=>?_,I.base.free,fun b o e hx=>?_,I.base.tups,I.base.frzs,I.base.tbls⟩,zn m (hn.sameBut hs (Ne.symm (cne x c hc))) fun j y v' e1 e2 e3=>?_,fun y c' e=>?_,I.free,I.freeC,fun p hp=>?_,tracked (zn oc hoc (I.freeC x c hc)) hs,by simpa using I.len⟩ (zn c hs (.inr hc))
  ·exact (hs.2 b (cZ (el (bP e) (I.ok.cab x c hfn hc)))).trans (I.base.keep b o e n hb hx)
  ·obtain ⟨sl,e1⟩:=I.base.slot b o e n hb hx;exact ⟨sl,(hs.2 b (cZ (el (bP e) (I.ok.cab x c hfn hc)))).trans e1⟩
  ·obtain ⟨o',e1⟩:=I.base.there b o e hx;exact ⟨o',(hs.2 b (cZ (el (bP e) (I.ok.cab x c hfn hc)))).trans e1⟩
  ·by_cases hj:j=i
   ·subst hj;rw [hi] at e1;cases e1;rw [pC hiσ] at e2
    cases e2
    exact zn u r (.inr ⟨.inl hk,zn c hc hc'⟩)
   ·rw [pD (Ne.symm hj)] at e2;obtain ⟨u',r',q⟩:=hl j y v' e1 e2 e3;refine zn u' r' ?_;rcases q with q | ⟨k,c',e,z'⟩
    ·exact .inl q
    ·refine .inr ⟨k,zn c' e (z'.sameBut hs ?_)⟩;rintro rfl;exact hj (gO hN e1 (I.ok.inj _ _ _ e hc ▸ hi))
  ·by_cases hcc:c'=c
   ·subst hcc;exact ⟨_,hc'⟩
   ·obtain ⟨w2,z2⟩:=I.cell y c' e;exact ⟨w2,z2.sameBut hs hcc⟩
  ·obtain ⟨e,n,ne,nf,d⟩:=I.pin p hp;refine zAH ((hs.2 p.1 ?_).trans e) n ne nf d;intro q;rw [q,hoc] at e;have q':oc=p.2:=Option.some.inj e;exact d w' (by rw [<- q'];exact hocd)
theorem dR{M:Model}{A:Around}{E:Value->Shared->Prop}{i:Nat}{x:Str}{v:V}{u:Value}{Q:Unit->Shared->Prop}(I:Inv X pins σ H s)(hN:X.N.Nodup)(hi:X.N[i]?=some x)(hx:Loc X.env.scope x)(r:RelV v u)
  (h:∀s',Inv X pins (σ.set i (some v)) H s'->Q () s') (hf:X.fn x=true\/X.env.scope.names.lookup x=some .local:=by first | exact .inl rfl | exact .inr rfl | assumption):wpAny M A (storeName X.env x u) Q E s:=
 oW I hN hi hx r (fun s' I' _=>h s' I') hf
theorem Inv.call'{s':Shared}{ch:List Addr}(I:Inv X pins σ H s)(ho:s'.os=s.os)(u:Un (frs X.stack) ch H H' s.heap s'.heap)(hok:HOk X.prog X.w H' s'.heap)(hg:AllBare s'.gens)
  (hch:∀b∈ch,(b∈X.ex\/X.s₀.heap.objs.size<=b)/\b≠X.env.locals/\(∀x c,X.env.cells.lookup x=some c->c≠b)/\∀p∈X.pn++pins,p.1≠b):Inv X pins σ H' s':=by
 obtain ⟨h',g',d',t',o'⟩:=s';have e:o'=s.os:=ho;subst e;exact I.call (g':=g') (t':=t') (d':=d') u hok hg hch
end
abbrev XK:=Value->Option Addr->Hp->Prop
abbrev St:=List (Option V)
abbrev VK:=V->Hp->Prop
abbrev TE:=St->Hp->VK->Prop
abbrev TT:=St->Hp->(Bool->Hp->Prop)->Prop
abbrev TA:=St->Hp->(List V->Hp->Prop)->Prop
structure cG where
 nx:St->Hp->Prop
 rt:VK
 bk:St->Hp->Prop:=fun _ _=>False
 ct:St->Hp->Prop:=fun _ _=>False
abbrev TS:=cG->St->Hp->Prop
def EP(X:Cx)(pins:List (Addr×Obj))(σ:St)(Q:VK)(u:Value)(s':Shared):Prop:=∃v H',Inv X pins σ H' s'/\RelV v u/\Q v H'
def TP(X:Cx)(pins:List (Addr×Obj))(σ:St)(Q:Bool->Hp->Prop)(b:Bool)(s':Shared):Prop:=∃H',Inv X pins σ H' s'/\Q b H'
def AP(X:Cx)(pins:List (Addr×Obj))(σ:St)(Q:List V->Hp->Prop)(us:List Value)(s':Shared):Prop:=∃vs H',Inv X pins σ H' s'/\Vals vs us/\Q vs H'
def SP(X:Cx)(pins:List (Addr×Obj))(D:cG)(f:Flow)(s':Shared):Prop:=
 match f with
 | .next=>∃σ' H',Inv X pins σ' H' s'/\D.nx σ' H'
 | .brk=>∃σ' H',Inv X pins σ' H' s'/\D.bk σ' H'
 | .cont=>∃σ' H',Inv X pins σ' H' s'/\D.ct σ' H'
 | .ret u=>∃v σ' H',Inv X pins σ' H' s'/\RelV v u/\D.rt v H'
def PE(X:Cx)(e:Expr)(t:TE):Prop:=
 ∀(pins:List (Addr×Obj)) (s:Shared) (σ:St) (H:Hp) (Q:VK),Inv X pins σ H s->t σ H Q->wpAny (model X.prog X.w) X.A (eval e X.env) (EP X pins σ Q) X.xe s
def PT(X:Cx)(e:Expr)(t:TT):Prop:=
 ∀(pins:List (Addr×Obj)) (s:Shared) (σ:St) (H:Hp) (Q:Bool->Hp->Prop),Inv X pins σ H s->t σ H Q->wpAny (model X.prog X.w) X.A (isTrue e X.env (eval e X.env)) (TP X pins σ Q) X.xe s
def PW(X:Cx)(e:Expr)(t:TT):Prop:=
 ∀(whole:Sem Value)(pins:List (Addr×Obj)) (s:Shared) (σ:St) (H:Hp) (Q:Bool->Hp->Prop),Inv X pins σ H s->t σ H Q->wpAny (model X.prog X.w) X.A (isTrue e X.env whole) (TP X pins σ Q) X.xe s
theorem PW.pt{X:Cx}{e:Expr}{t:TT}(h:PW X e t):PT X e t:=h _
def PA(X:Cx)(es:List Expr)(t:TA):Prop:=
 ∀(pos:Pos)(pins:List (Addr×Obj)) (s:Shared) (σ:St) (H:Hp) (Q:List V->Hp->Prop),Inv X pins σ H s->t σ H Q->wpAny (model X.prog X.w) X.A (spliced (backTo pos (starEach es X.env))) (AP X pins σ Q) X.xe s
def PS(X:Cx)(st:Stmt)(t:TS):Prop:=
 ∀(pins:List (Addr×Obj)) (s:Shared) (σ:St) (H:Hp) (D:cG),Inv X pins σ H s->t D σ H->wpAny (model X.prog X.w) X.A (exec st X.env) (SP X pins D) X.xe s
def PSs(X:Cx)(st:List Stmt)(t:TS):Prop:=
 ∀(pins:List (Addr×Obj)) (s:Shared) (σ:St) (H:Hp) (D:cG),Inv X pins σ H s->t D σ H->wpAny (model X.prog X.w) X.A (execs st X.env) (SP X pins D) X.xe s
theorem thn{α:Type}{t:Sem α}{Q Q':α->Shared->Prop}{M:Model}{A:Around}{E:Value->Shared->Prop}{s:Shared}(h:wpAny M A t Q E s)(hQ:∀a s,Q a s->Q' a s):wpAny M A t Q' E s:=fO h hQ fun _ _ x=>x
end L2
namespace L2
variable {u:Value} {x:Str}
section
variable {X:Cx}
theorem bin{a b:Expr}{ta tb:TE}(ha:PE X a ta)(hb:PE X b tb){pins:List (Addr×Obj)}{s:Shared}{σ:St}{H:Hp}{R:V->V->Hp->Prop}(I:Inv X pins σ H s)(h:ta σ H fun x H1=>tb σ H1 fun y H2=>R x y H2)
  {α:Type} {Q:α->Shared->Prop} {f:Value->Value->Sem α}
  (hf:∀v u s2 x y H2,Inv X pins σ H2 s2->RelV x v->RelV y u->R x y H2->wpAny (model X.prog X.w) X.A (f v u) Q X.xe s2) :
  wpAny (model X.prog X.w) X.A (eval a X.env) (fun v s₁=>wpAny (model X.prog X.w) X.A (eval b X.env) (fun u s₂=>wpAny (model X.prog X.w) X.A (f v u) Q X.xe s₂) X.xe s₁) X.xe s:=by
 refine thn (ha pins s σ H _ I h) fun v s1 hhx=>?_;obtain ⟨x,H1,I1,r1,q1⟩:=hhx;refine thn (hb pins s1 σ H1 _ I1 q1) fun u s2 hhx=>?_;obtain ⟨y,H2,I2,r2,q2⟩:=hhx;exact hf v u s2 x y H2 I2 r1 r2 q2
def yV(i:Nat):TE:=fun σ H Q=>∃v,σ[i]?=some (some v)/\Q v H
def tC(v:V):TE:=fun _ H Q=>Q v H
theorem xA{i:Nat}{pos:Pos}(hN:X.N[i]?=some x)(hv:Vis X.env.scope x)(hd:(x==("__debug__":Str))=false:=by decide) (hcd:(x==("__classdict__":Str))=false:=by decide):PE X (.Name x pos) (yV i):=by
 intro pins s σ H Q I h;obtain ⟨v,e,h⟩:=h;obtain ⟨m,hn,hl⟩:=I.loc;obtain ⟨u,r,l⟩:=hl i x v hN e hv;have fin:EP X pins σ Q u s:=zAA v H I r h
 rcases l with ⟨hk,hm⟩ | ⟨hk,c,hc,hcell⟩
 ·exact wpAny_Name (wpAny_loadName_local I.ok.kind hk hn hm fin) hd
 ·rcases hk with hk | hk
  ·exact wpAny_Name (wpAny_loadName_cell I.ok.kind hk hc hcell fin) hd
  ·exact wpAny_Name (wpAny_loadName_free I.ok.kind hk hc hcell fin hcd) hd
theorem rc{i j pos}:PE X (.Constant (.int i) j pos) (tC (.int i)):=fun _ _ _ H _ I h=>wpAny_Constant_int (zAA (.int i) H (I.tok _) ⟨_,rfl⟩ h)
theorem vo{b j pos}:PE X (.Constant (.bool b) j pos) (tC (.bl b)):=fun _ _ _ H _ I h=>Constant_bool (zAA (.bl b) H I rfl h)
theorem rf{j pos}:PE X (.Constant .none j pos) (tC .non):=fun _ _ _ H _ I h=>Constant_none (zAA .non H I rfl h)
theorem rg{x j pos}:PE X (.Constant (.str x) j pos) (tC (.str x)):=fun _ _ _ H _ I h=>Calls.Constant_str (zAA (.str x) H (I.tok _) ⟨_,rfl⟩ h)
def Gl(X:Cx)(x:Str):Prop:=X.env.kindOf x=some .globalImplicit
theorem f9{E:Value->Shared->Prop}{pins:List (Addr×Obj)}{s:Shared}{σ:St}{H:Hp}{pos:Pos}{Q:Value->Shared->Prop}(I:Inv X pins σ H s)(hg:Gl X x)(hm:X.mg x=some u)(h:Q u s)
 (hd:(x==("__debug__":Str))=false:=by decide):wpAny (model X.prog X.w) X.A (eval (.Name x pos) X.env) Q E s:=
 Calls.Name_function_global I.ok.kind hg (Calls.loadGlobal_global (by rw [I.ok.glob];exact I.mod.glob.keeps I.bk) hm h) hd
theorem gJ{E:Value->Shared->Prop}{pins:List (Addr×Obj)}{s:Shared}{σ:St}{H:Hp}{pos:Pos}{Q:Value->Shared->Prop}(I:Inv X pins σ H s)(hg:Gl X x)(hm:X.mg x=none)(hv:bootBuiltins x=some u)(h:Q u s)
 (hn:x≠"__name__":=by decide) (hd:(x==("__debug__":Str))=false:=by decide):wpAny (model X.prog X.w) X.A (eval (.Name x pos) X.env) Q E s:=by
 obtain ⟨mb,h1,h2⟩:=I.mod.blt;exact Calls.Name_function_global I.ok.kind hg (Calls.loadGlobal_builtin (by rw [I.ok.glob];exact I.mod.glob.keeps I.bk) hm (by rw [I.ok.blt];exact h1.keeps I.bk) ((h2 x hn).trans hv) h) hd
theorem uu{v:V}{pos:Pos}(hg:Gl X x)(hm:X.mg x=some u)(r:RelV v u)(hd:(x==("__debug__":Str))=false:=by decide):PE X (.Name x pos) (tC v):=
 fun _ _ _ H _ I h=>f9 I hg hm (zAA v H I r h) hd
theorem ut{v:V}{pos:Pos}(hg:Gl X x)(hm:X.mg x=none)(hv:bootBuiltins x=some u)(r:RelV v u)(hn:x≠"__name__":=by decide) (hd:(x==("__debug__":Str))=false:=by decide):PE X (.Name x pos) (tC v):=
 fun _ _ _ H _ I h=>gJ I hg hm hv (zAA v H I r h) hn hd
variable {a b:Expr} {ta tb:TE} {pos:Pos}
def PC(X:Cx)(op:CmpOp)(a b:Expr)(t:TE):Prop:=
 ∀(pins:List (Addr×Obj)) (s:Shared) (σ:St) (H:Hp) (Q:VK),Inv X pins σ H s->t σ H Q->
  wpAny (model X.prog X.w) X.A (eval a X.env) (fun v s₁=>wpAny (model X.prog X.w) X.A (eval b X.env) (fun u s₂=>wpAny (model X.prog X.w) X.A (compareOp op v u) (EP X pins σ Q) X.xe s₂) X.xe s₁) X.xe s
theorem qG(b:Expr){op:CmpOp}(h:op≠.In)(h2:op≠.NotIn):behindInMarks op b=false:=by
 have e1:(op==CmpOp.In)=false:=by cases op<;>first | rfl | exact absurd rfl h
 have e2:(op==CmpOp.NotIn)=false:=by cases op<;>first | rfl | exact absurd rfl h2
 cases b<;>simp [behindInMarks,e1,e2]
def tB(t:TE):TT:=fun σ H Q=>t σ H fun x H1=>∃c,x=.bl c/\Q c H1
theorem AU{op:CmpOp}{t:TE}(h:PC X op a b t)(h1:behindInMarks op b=false:=by first | exact qG _ Jm Jm | rfl):PT X (.Compare a [op] [b] pos) (tB t):=by
 intro pins s σ H Q I hw;refine wpAny_isTrue_Compare1 (thn (h pins s σ H _ I hw) fun v s1 h1=>thn h1 fun u s2 h2=>thn h2 fun c s3 hhx=>?_) h1;obtain ⟨x,H1,I1,r1,q1⟩:=hhx;obtain ⟨d,rfl,q⟩:=q1
 cases r1
 exact wpAny_truthy_bool (zn H1 I1 q)
variable {tA tB':TT} {dc:List Expr}
def Aw(t u:TT):TT:=fun σ H Q=>t σ H fun c H1=>if c=true then u σ H1 Q else Q false H1
def tOr(t u:TT):TT:=fun σ H Q=>t σ H fun c H1=>if c=true then Q true H1 else u σ H1 Q
def AA(t:TT):TT:=fun σ H Q=>t σ H fun c H1=>Q (! c) H1
def wt(ta tb:TE):TE:=fun σ H Q=>ta σ H fun x H1=>∃c,x=.bl c/\if c=true then tb σ H1 Q else Q (.bl false) H1
def AB(ta tb:TE):TE:=fun σ H Q=>ta σ H fun x H1=>∃c,x=.bl c/\if c=true then Q (.bl true) H1 else tb σ H1 Q
def tIf(t:TT)(ta tb:TE):TE:=fun σ H Q=>t σ H fun c H1=>if c=true then ta σ H1 Q else tb σ H1 Q
end
end L2
namespace L2
def SqL(K:W.Frag)(H:Hp)(a:Addr)(xs:List V):Prop:=
 Rd H a (.lst xs)\/
  ∃(o:Obj)(its:Array Value)(n:Nat),K.lookup a=some o/\o.cls=.type "list"/\o.dict=none/\o.data=.seq its n/\its.size<=sizeLine/\Vals xs its.toList
def SqT(K:W.Frag)(H:Hp)(a:Addr)(xs:List V):Prop:=
 Rd H a (.tup xs)\/
  ∃(o:Obj)(its:Array Value)(n:Nat),K.lookup a=some o/\o.cls=.type "tuple"/\o.data=.seq its n/\its.size<=sizeLine/\Vals xs its.toList
def AN:Value->Option V
 | .none=>some .non
 | .bool b=>some (.bl b)
 | .int i _=>some (.int i)
 | .str x _=>some (.str x)
 | .bytes b _=>some (.byt b)
 | .float b _=>some (.flt b)
 | .ref a=>some (.ref a)
 | .type n=>some (.ty n)
 |_=>none
theorem RelV.abs{x:V}{u:Value}(r:RelV x u):AN u=some x:=by
 cases x with
 |non=>cases r;rfl
 |bl _=>cases r;rfl
 |int _=>obtain ⟨t,rfl⟩:=r;rfl
 |str _=>obtain ⟨t,rfl⟩:=r;rfl
 |byt _=>obtain ⟨t,rfl⟩:=r;rfl
 |flt _=>obtain ⟨t,rfl⟩:=r;rfl
 |ref _=>cases r;rfl
 |ty _=>cases r;rfl
theorem RelV.inj{x y:V}{u:Value}(r:RelV x u)(q:RelV y u):x=y:=Option.some.inj (r.abs.symm.trans q.abs)
theorem Vals.inj:∀{xs ys:List V} {us:List Value},Vals xs us->Vals ys us->xs=ys
 |_,_,_,.nil,.nil=>rfl
 |_,_,_,.cons r t,.cons r' t'=>by rw [r.inj r',Vals.inj t t']
section
variable {X:Cx} {pins:List (Addr×Obj)} {σ:St} {H:Hp} {s:Shared} {a:Addr} {xs ys:List V}
theorem SqL.of{K:W.Frag}(h:H a=some (.lst xs)):SqL K H a xs:=.inl (.inl h)
theorem SqT.of{K:W.Frag}(h:H a=some (.tup xs)):SqT K H a xs:=.inl (.inl h)
theorem Inv.list(I:Inv X pins σ H s)(h:SqL X.K H a xs):∃its:List Value,Vals xs its/\PlainL s.heap a its.toArray/\xs.length<=sizeLine:=by
 rcases h with h | ⟨o,its,n,hk,hc,hd,hs,hz,r⟩
 ·obtain ⟨z,its,n,r,e⟩:=h.ok I.hok;exact zAD its r (zAC _ n e rfl rfl rfl) z
 ·refine zAD its.toList r (zAC o n (I.kIn a o hk) hc hd (by simpa using hs)) ?_;have e:=r.length;simp only [Array.length_toList] at e;omega
theorem Inv.tuple(I:Inv X pins σ H s)(h:SqT X.K H a xs):∃its:List Value,Vals xs its/\IsTup s.heap a its.toArray/\xs.length<=sizeLine:=by
 rcases h with h | ⟨o,its,n,hk,hc,hs,hz,r⟩
 ·obtain ⟨z,its,r,p⟩:=h.ok I.hok;exact zAD its r p z
 ·refine zAD its.toList r (zAD o (I.kIn a o hk) hc ⟨n,by simpa using hs⟩) ?_;have e:=r.length;simp only [Array.length_toList] at e;omega
theorem Inv.list_inj(I:Inv X pins σ H s)(h:SqL X.K H a xs)(h':SqL X.K H a ys):xs=ys:=by
 obtain ⟨its,r,⟨o,n,e,_,_,d⟩,_⟩:=I.list h;obtain ⟨its',r',⟨o',n',e',_,_,d'⟩,_⟩:=I.list h';rw [e] at e';cases e';rw [d] at d';injection d' with d1 _;have:its=its':=by simpa using congrArg Array.toList d1
 subst this;exact r.inj r'
end
abbrev Cx.wish (X:Cx) (E:Value->Shared->Prop):Cx:={X with xe:=E}
abbrev Cx.nox (X:Cx):Cx:=X.wish fun _ _=>False
theorem Cx.Ok.wish{X:Cx}(ok:X.Ok)(E:Value->Shared->Prop):(X.wish E).Ok:=
 ⟨ok.mod,ok.kind,ok.glob,ok.blt,ok.above,ok.inj,ok.has,ok.cab,ok.hd,ok.frames,ok.stk,ok.exf,ok.bs,ok.bsz,ok.noex,ok.exfs,ok.funs,ok.frf⟩
theorem Cx.Ok.unwish{X:Cx}{E:Value->Shared->Prop}(ok:(X.wish E).Ok):X.Ok:=
 ⟨ok.mod,ok.kind,ok.glob,ok.blt,ok.above,ok.inj,ok.has,ok.cab,ok.hd,ok.frames,ok.stk,ok.exf,ok.bs,ok.bsz,ok.noex,ok.exfs,ok.funs,ok.frf⟩
section
variable {X:Cx} {pins:List (Addr×Obj)} {σ:St} {H:Hp} {s:Shared} {E:Value->Shared->Prop}
theorem Inv.wish(I:Inv X pins σ H s)(E:Value->Shared->Prop):Inv (X.wish E) pins σ H s:=⟨I.ok.wish E,I.os,I.bare,I.base,I.loc,I.cell,I.free,I.freeC,I.pin,I.hok,I.len⟩
theorem Inv.unwish(I:Inv (X.wish E) pins σ H s):Inv X pins σ H s:=⟨I.ok.unwish,I.os,I.bare,I.base,I.loc,I.cell,I.free,I.freeC,I.pin,I.hok,I.len⟩
theorem SP.unwish{D:cG}{f:Flow}{s':Shared}(h:SP (X.wish E) pins D f s'):SP X pins D f s':=by
 cases f with
 |next=>obtain ⟨σ',H',I,q⟩:=h;exact zAE σ' H' I.unwish q
 |brk=>obtain ⟨σ',H',I,q⟩:=h;exact zAE σ' H' I.unwish q
 |cont=>obtain ⟨σ',H',I,q⟩:=h;exact zAE σ' H' I.unwish q
 |ret u=>obtain ⟨v,σ',H',I,r,q⟩:=h;exact zAU v σ' H' I.unwish r q
theorem PSs.nox{st:List Stmt}{t:TS}(h:PSs X.nox st t):PSs X st t:=fun pins s σ H D I hw=>fO (h pins s σ H D (I.wish _) hw) (fun _ _ q=>q.unwish) fun _ _ z=>False.elim z
end
section
variable {X:Cx} {st:Stmt} {dc:List Stmt} {t u:TS} {e:Expr} {te:TE} {pos:Pos}
def ww:TS:=fun D σ H=>D.nx σ H
def yS(t u:TS):TS:=fun D σ H=>t {D with nx:=u D} σ H
def rZ:TS:=fun D σ H=>D.bk σ H
theorem Inv.quiet{pins:List (Addr×Obj)}{σ:St}{H:Hp}{s:Shared}(I:Inv X pins σ H s):interactive X.env=false:=by simp [interactive,I.ok.kind]
def wu(te:TE):TS:=fun D σ H=>te σ H fun _ H1=>D.nx σ H1
def AC(te:TE):TS:=fun D σ H=>te σ H D.rt
def yQ(c:TT)(t u:TS):TS:=fun D σ H=>c σ H fun b H1=>if b=true then t D σ H1 else u D σ H1
end
abbrev TG:=V->St->Hp->(St->Hp->Prop)->Prop
abbrev TGs:=List V->St->Hp->(St->Hp->Prop)->Prop
def PG(X:Cx)(target:Expr)(t:TG):Prop:=
 ∀(pins:List (Addr×Obj)) (s:Shared) (σ:St) (H:Hp) (v:V) (u:Value) (Q:St->Hp->Prop),Inv X pins σ H s->RelV v u->t v σ H Q->
  wpAny (model X.prog X.w) X.A (assign target X.env u) (fun _ s'=>∃σ' H',Inv X pins σ' H' s'/\Q σ' H') X.xe s
def PGs(X:Cx)(ts:List Expr)(t:TGs):Prop:=
 ∀(pins:List (Addr×Obj)) (s:Shared) (σ:St) (H:Hp) (vs:List V) (us:List Value) (Q:St->Hp->Prop),Inv X pins σ H s->Vals vs us->t vs σ H Q->
  wpAny (model X.prog X.w) X.A (assignInOrder ((assignEach ts X.env).map (·.2)) us) (fun _ s'=>∃σ' H',Inv X pins σ' H' s'/\Q σ' H') X.xe s
abbrev pM:=V->V->V->Hp->(Hp->Prop)->Prop
def wI(X:Cx)(t:pM):Prop:=
 ∀(pins:List (Addr×Obj)) (s:Shared) (σ:St) (H:Hp) (o i v:V) (ov iv u:Value) (Q:Hp->Prop),Inv X pins σ H s->RelV o ov->RelV i iv->RelV v u->t o i v H Q->
  wpAny (model X.prog X.w) X.A (setItem ov iv u) (fun _ s'=>∃H',Inv X pins σ H' s'/\Q H') X.xe s
section
variable {X:Cx} {pos:Pos}
def bD(i:Nat):TG:=fun v σ H Q=>Q (σ.set i (some v)) H
theorem ni{i:Nat}{x:Str}(hN:X.N.Nodup)(hi:X.N[i]?=some x)(hx:Loc X.env.scope x)(hf:X.fn x=true\/X.env.scope.names.lookup x=some .local:=by first | exact .inl rfl | exact .inr rfl | assumption):PG X (.Name x pos) (bD i):=by intro pins s σ H v u Q I r h;exact wpAny_assign_Name (dR I hN hi hx r (fun s' I'=>zAE _ H I' h) hf)
def zm:TGs:=fun vs σ H Q=>vs=[]/\Q σ H
def vh(t:TG)(u:TGs):TGs:=fun vs σ H Q=>∃v r,vs=v::r/\t v σ H fun σ' H'=>u r σ' H' Q
def zo(K:W.Frag)(n:Nat)(t:TGs):TG:=fun v σ H Q=>∃a xs,v=.ref a/\SqT K H a xs/\xs.length=n/\t xs σ H Q
def wW(to ti:TE)(t:pM):TG:=fun v σ H Q=>to σ H fun o H1=>ti σ H1 fun i H2=>t o i v H2 fun H3=>Q σ H3
theorem xB{o i:Expr}{to ti:TE}{t:pM}(ho:PE X o to)(hi:PE X i ti)(hs:wI X t)
  (ha:∀v,assign (.Subscript o i pos) X.env v=(do
   let ov <- holding [v] (eval o X.env)
   let iv <- holding [v,ov] (eval i X.env)
   standAt pos
   holding [v,ov,iv] (setItem ov iv v)
   release [v,ov,iv] []):=by intro _;rfl):PG X (.Subscript o i pos) (wW to ti t):=by
 intro pins s σ H v u Q I r h;rw [ha];refine zq7 (kJ (thn (ho pins s σ H _ I h) fun ov s1 hhx=>?_));obtain ⟨x,H1,I1,r1,q1⟩:=hhx;refine zq7 (kJ (thn (hi pins s1 σ H1 _ I1 q1) fun iv s2 hhx=>?_));obtain ⟨y,H2,I2,r2,q2⟩:=hhx;refine zq7 (wpAny_standAt (zq7 (kJ (thn (hs pins s2 σ H2 x y v ov iv u _ I2 r1 r2 r q2) fun _ s3 hhx=>?_))));obtain ⟨H3,I3,q3⟩:=hhx;exact wpAny_release (zAE σ H3 I3 q3)
def uU(te:TE)(g:TG):TS:=fun D σ H=>te σ H fun x H1=>g x σ H1 D.nx
theorem xE{i:Nat}{x:Str}{e:Expr}{te:TE}{pos':Pos}(hN:X.N.Nodup)(hi:X.N[i]?=some x)(hx:Loc X.env.scope x)(he:PE X e te)(hs:swapsWith e (some (.Name x pos')) pos.line X.env=pure false:=by rfl)(hf:X.fn x=true\/X.env.scope.names.lookup x=some .local:=by first | exact .inl rfl | exact .inr rfl | assumption):
  PS X (.Assign [.Name x pos'] e pos) (uU te (bD i)):=by
 intro pins s σ H D I h;refine wpAny_Assign_Name (thn (he pins s σ H _ I h) fun v s1 hhx=>?_) hs;obtain ⟨y,H1,I1,r1,q1⟩:=hhx;exact dR I1 hN hi hx r1 (fun s2 I2=>zAE _ H1 I2 q1) hf
end
section
variable {X:Cx} {pos:Pos}
def sg(c:TT)(tb:TS):TS:=fun D σ H=>∃W:Nat->St->Hp->Prop,(∃m,W m σ H)/\∀m σ H,W m σ H->
 c σ H fun b H1=>if b=true then ∃N:St->Hp->Prop,(∀σ' H',N σ' H'->∃m',m'<m/\W m' σ' H')/\tb {D with nx:=N,ct:=N,bk:=D.nx} σ H1 else D.nx σ H1
end
structure It where
 go:Nat->Hp->Prop
 yld:Nat->Hp->V->Hp->Prop
 stop:Nat->Hp->Prop
def iV(X:Cx)(pins:List (Addr×Obj))(H:Hp)(b:Addr):Prop:=
 H b=none/\b≠X.env.locals/\b∉X.fs/\(b∈X.ex\/X.s₀.heap.objs.size<=b)/\(∀x c,X.env.cells.lookup x=some c->c≠b)/\∀p∈X.pn++pins,p.1≠b
theorem Inv.fpOk{X:Cx}{pins:List (Addr×Obj)}{σ:St}{H H':Hp}{s:Shared}{b:Addr}(I:Inv X pins σ H s)(hb:s.heap.objs.size<=b)(hn:H' b=none):iV X pins H' b:=by
 refine zAP hn (z8 (el I.lt hb)) (I.nofs hb) (.inr (gf I.sz hb)) (fun x c e z=>?_) fun p hp z=>?_
 ·obtain ⟨v,q⟩:=I.cell x c e;exact absurd (el q.lt (by rw [z];exact hb)) (me _)
 ·exact absurd (el (bP (I.pin p hp).1) (by rw [z];exact hb)) (me _)
structure nQ(P:Program)(w:World)(K:W.Frag)(tg:Expr)(J:It)(fp:List Addr)(it:Addr)(tn:Nat->Heap->Prop):Prop where
 mem:it∈fp
 obj:∀i h,tn i h->∀b∈fp,∃o,h.get? b=some o/\∀v,o.data≠.cell v
 keep:∀i h h',tn i h->(∀b∈fp,∀o,h.get? b=some o->h'.get? b=some o)->tn i h'
 item:∀(X:Cx),X.prog=P->X.w=w->X.K=K->X.calm=true->∀(i:Nat)(pins:List (Addr×Obj)) (s:Shared) (σ:St) (H:Hp) (E:Value->Shared->Prop),Inv X pins σ H s->(∀b∈fp,iV X pins H b)->tn i s.heap->J.go i H->
  wpAny (model P w) X.A (pyNext (.ref it)) (fun r s1=>∃u,r=some u/\
   wpAny (model P w) X.A (letOwnedTupleGo tg (.ref it) u) (fun _ s2=>∃x H',Inv X pins σ H' s2/\RelV x u/\J.yld i H x H'/\tn (i+1) s2.heap/\∀b∈fp,H' b=none) E s1) E s
 done:∀(X:Cx),X.prog=P->X.w=w->X.K=K->X.calm=true->∀(i:Nat)(pins:List (Addr×Obj)) (s:Shared) (σ:St) (H:Hp) (E:Value->Shared->Prop),Inv X pins σ H s->(∀b∈fp,iV X pins H b)->tn i s.heap->J.stop i H->
  wpAny (model P w) X.A (pyNext (.ref it)) (fun r s1=>r=none/\Inv X pins σ H s1) E s
 self:∀(A:Around)(i:Nat)(s:Shared)(Q:Value->Shared->Prop)(E:Value->Shared->Prop),tn i s.heap->Q (.ref it) s->wpAny (model P w) A (pyIter (.ref it)) Q E s
abbrev TI:=St->Hp->(It->Hp->Prop)->Prop
variable {tg:Expr}
def PIE(X:Cx)(pins:List (Addr×Obj))(σ:St)(tg:Expr)(R:It->Hp->Prop)(itv:Value)(s2:Shared):Prop:=
 ∃(it:Addr)(fp:List Addr)(tn:Nat->Heap->Prop)(J:It)(H':Hp),itv=.ref it/\Inv X pins σ H' s2/\nQ X.prog X.w X.K tg J fp it tn/\tn 0 s2.heap/\(∀b∈fp,iV X pins H' b)/\R J H'
def PI(X:Cx)(tg iter:Expr)(wi:TI):Prop:=
 ∀(pins:List (Addr×Obj)) (s:Shared) (σ:St) (H:Hp) (R:It->Hp->Prop),Inv X pins σ H s->wi σ H R->
  wpAny (model X.prog X.w) X.A (eval iter X.env) (fun v s1=>wpAny (model X.prog X.w) X.A (pyIter v) (PIE X pins σ tg R) X.xe s1) X.xe s
theorem qx{M:Model}{A:Around}{E:Value->Shared->Prop}{s:Shared}{it:Addr}{u:Value}{o:Obj}{n:String}{vs:Array Value}{Q:Unit->Shared->Prop}(ho:s.heap.get? it=some o)(hc:o.cls=.type n)(hd:o.data=.fields vs)
 (hn:["enumerate","zip","dict_itemiterator","dict_reverseitemiterator","odict_iterator","itertools.zip_longest","itertools.pairwise"].contains n=false) (hQ:Q () s):wpAny M A (letOwnedTupleGo tg (.ref it) u) Q E s:=by
  unfold letOwnedTupleGo
  cases tg<;>first
    |exact cu hQ
    | (cases u<;>first
        |exact cu hQ
        | (refine zq7 (wpAny_load ho ?_)
           rw [hc,hd];show wpAny M A (if (["enumerate","zip","dict_itemiterator","dict_reverseitemiterator","odict_iterator","itertools.zip_longest","itertools.pairwise"].contains n&&vs[0]?==some (rawInt _))=true then _ else _) Q E s;rw [zq0 (by intro h;rw [hn,dW] at h;cases h)];exact cu hQ))
def Itl(K:W.Frag)(a:Addr):It:=
 ⟨fun i H=>∃xs x,SqL K H a xs/\xs[i]?=some x,fun i H x H'=>H'=H/\∀xs,SqL K H a xs->xs[i]?=some x,fun i H=>∃xs,SqL K H a xs/\xs.length<=i⟩
def Itr(lo:Int)(n:Nat):It:=⟨fun i _=>i<n,fun i H x H'=>H'=H/\x=.int (lo+i),fun i _=>n<=i⟩
theorem oZ{P:Program}{w:World}{K:W.Frag}(a it:Addr):nQ P w K tg (Itl K a) [it] it (fun i h=>h.IsListIter it a i) where
 mem:=by simp
 obj:=fun i h st b hb=>by
  have e:b=it:=by simpa using hb
  subst e;obtain ⟨o,e,c,d⟩:=st;exact zn o e (fun v z=>by rw [d] at z;cases z)
 keep:=fun i h h' st k=>st.at fun o e=>k it Jo o e
 item:=by intro X hP hw hK hc i pins s σ H E I hf st hg;subst hP hw hK;obtain ⟨xs,x,hq,hx⟩:=hg;obtain ⟨its,rv,p,hz⟩:=I.list hq;obtain ⟨u,hu,ru⟩:=rv.get hx;obtain ⟨f0,f1,f2,f3,f4,f5⟩:=hf it Jo;refine wpAny_pyNext_list_item st p.isList (x:=u) (by simpa using hu) fun h' st' sb=>?_;have I1:Inv X pins σ H {s with heap:=h'}:=I.turned (t':=s.toks) (fun b o hb e=>(sb.2 b hb).trans e) f0 f1 f3 f4 f5;obtain ⟨o,e,c,d⟩:=id st';exact zn u rfl (qx (s:={s with heap:=h'}) e c d Jm (zAK x H I1 ru ⟨rfl,fun ys hy=>by rw [I.list_inj hy hq];exact hx⟩ st' fun b hb=>(hf b hb).1))
 done:=by intro X hP hw hK hc i pins s σ H E I hf st hg;subst hP hw hK;obtain ⟨xs,hq,hx⟩:=hg;obtain ⟨its,rv,p,hz⟩:=I.list hq;obtain ⟨f0,f1,f2,f3,f4,f5⟩:=hf it Jo;have hl:=rv.length;exact wpAny_pyNext_list_end (I.ok.hd hc) st p.isList (by simp;omega) fun h' eb=>⟨rfl,I.turned (t':=s.toks) (fun b o hb e=>eb b o hb e) f0 f1 f3 f4 f5⟩
 self:=fun _ _ _ _ _ st h=>wpAny_pyIter_listiter st h
theorem m8{P:Program}{w:World}{K:W.Frag}(it:Addr)(lo:Int)(n:Nat):nQ P w K tg (Itr lo n) [it] it (fun i h=>IsRangeIter h it (lo+(i:Nat) * 1) ((n:Int)-(i:Nat)) 1) where
 mem:=by simp
 obj:=fun i h st b hb=>by
  have e:b=it:=by simpa using hb
  subst e;exact ⟨_,st,fun v z=>by
   have z':Data.fields _=Data.cell v:=z
   cases z'⟩
 keep:=fun i h h' st k=>k it Jo _ st
 item:=by intro X hP hw hK hc i pins s σ H E I hf st hg;subst hP hw hK;obtain ⟨f0,f1,f2,f3,f4,f5⟩:=hf it Jo;have W:=Walks.range (prog:=X.prog) (w:=X.w) (I.ok.hd hc) it lo 1 n;refine W.item i s _ _ hg st fun v h' tk hv st' kk=>?_;obtain ⟨t,rfl⟩:=hv;have I1:Inv X pins σ H {s with heap:=h',toks:=tk}:=I.turned (fun b o hb e=>kk b o (by simpa using hb) e) f0 f1 f3 f4 f5;refine zn _ rfl (qx (s:={s with heap:=h',toks:=tk}) (n:="range_iterator") st' rfl rfl Jm (zAK (.int (lo+i)) H I1 ⟨t,?_⟩ ⟨rfl,rfl⟩ st' fun b hb=>(hf b hb).1));rw [Int.mul_one]
 done:=by intro X hP hw hK hc i pins s σ H E I hf st hg;subst hP hw hK;obtain ⟨f0,f1,f2,f3,f4,f5⟩:=hf it Jo;exact wpAny_pyNext_range_end (I.ok.hd hc) st (by have:n<=i:=hg;omega) fun h' eb=>⟨rfl,I.turned (t':=s.toks) (fun b o hb e=>eb b o hb e) f0 f1 f3 f4 f5⟩
 self:=fun _ _ _ _ _ st h=>wpAny_pyIter_rangeiter st h
end L2
namespace L2
variable {H:Hp} {pins:List (Addr×Obj)} {s:Shared} {σ:St}
section
variable {X:Cx} {tg:Expr}
def vi(K:W.Frag)(tl:TE):TI:=fun σ H R=>tl σ H fun x H1=>∃a,x=.ref a/\(∃xs,SqL K H1 a xs)/\R (Itl K a) H1
theorem rL{R:It->Hp->Prop}{E:Value->Shared->Prop}{lo hi:Int}{t u v:Tok}{tk:Nat}(I:Inv X pins σ H s)(h1:-(2 ^ 62)<=lo)(h2:lo<2 ^ 62)(h3:-(2 ^ 62)<=hi)(h4:hi<2 ^ 62)
 (q:R (Itr lo (hi-lo).toNat) H):wpAny (model X.prog X.w) X.A (pyIter (.ref s.heap.objs.size)) (PIE X pins σ tg R) E {s with heap:=s.heap.push {cls:=.type "range",data:=.fields #[.int lo t,.int hi u,.int 1 v]},toks:=tk}:=by
 refine wpAny_pyIter_range (IsRange.new ..) (small_one h1 h2 h3 h4) ?_;have I1:Inv X pins σ H {s with heap:=s.heap.push {cls:=.type "range",data:=.fields #[.int lo t,.int hi u,.int 1 v]},toks:=tk}:=I.kept fun b o e=>cz _ e;refine ⟨(s.heap.push {cls:=.type "range",data:=.fields #[.int lo t,.int hi u,.int 1 v]}).objs.size,[(s.heap.push {cls:=.type "range",data:=.fields #[.int lo t,.int hi u,.int 1 v]}).objs.size],_,_,H,rfl,
  I1.kept (t':=tk) fun b o e=>cz _ e,m8 _ lo (hi-lo).toNat,?_,fun b hb=>?_,q⟩
 ·have e1:lo+((0:Nat):Int) * 1=lo:=by simp
  have e2:(((hi-lo).toNat:Nat):Int)-((0:Nat):Int)=Builtin.Range.rangeSize lo hi 1:=by rw [rangeSize_one];split<;>omega
  show IsRangeIter _ _ (lo+((0:Nat):Int) * 1) ((((hi-lo).toNat:Nat):Int)-((0:Nat):Int)) 1;rw [e1,e2];exact er _ rfl
 ·have e:b=(s.heap.push {cls:=.type "range",data:=.fields #[.int lo t,.int hi u,.int 1 v]}).objs.size:=by simpa using hb
  subst e;exact I1.fpOk (zq9 _) (I1.hok.fresh (zq9 _))
def vj(ta:TA):TI:=fun σ H R=>ta σ H fun vs H1=>∃j:Int,vs=[.int j]/\-(2 ^ 62)<=j/\j<2 ^ 62/\R (Itr 0 j.toNat) H1
def yP(wi:TI)(g:TG)(tb:TS):TS:=fun D σ H=>wi σ H fun J H1=>∃W:Nat->Nat->St->Hp->Prop,(∃m,W 0 m σ H1)/\∀i m σ H,W i m σ H->
 (J.stop i H/\D.nx σ H)\/(J.go i H/\∃N:St->Hp->Prop,(∀σ' H',N σ' H'->∃m',m'<m/\W (i+1) m' σ' H')/\∀x H',J.yld i H x H'->g x σ H' fun σ2 H2=>tb {D with nx:=N,ct:=N,bk:=D.nx} σ2 H2)
def fH(fp:List Addr)(h:Heap):List (Addr×Obj):=fp.filterMap fun b=>(h.get? b).map fun o=>(b,o)
theorem cV{fp:List Addr}{h:Heap}{b:Addr}{o:Obj}(hb:b∈fp)(e:h.get? b=some o):(b,o)∈fH fp h:=List.mem_filterMap.mpr (zn b hb (by rw [e];rfl))
theorem oF{fp:List Addr}{h:Heap}{p:Addr×Obj}(hp:p∈fH fp h):p.1∈fp/\h.get? p.1=some p.2:=by
 obtain ⟨b,hb,e⟩:=List.mem_filterMap.mp hp
 cases q:h.get? b with
 |none=>rw [q] at e;cases e
 |some o=>rw [q] at e;have e':(b,o)=p:=Option.some.inj e;subst e';exact ⟨hb,q⟩
theorem Inv.pinned{fp:List Addr}(I:Inv X pins σ H s)(hf:∀b∈fp,iV X pins H b)(ho:∀b∈fp,∃o,s.heap.get? b=some o/\∀v,o.data≠.cell v):Inv X (pins++fH fp s.heap) σ H s:=
 I.pins_of fun p hp=>(zq10.mp hp).elim (fun z=>I.pin p (d8 _ z)) fun z=>by obtain ⟨hb,e⟩:=oF z;obtain ⟨f0,f1,f2,_⟩:=hf p.1 hb;obtain ⟨o,e',d⟩:=ho p.1 hb;rw [e] at e';cases e';exact zAH e f0 f1 f2 d
theorem Inv.unpinned{pl:List (Addr×Obj)}(I:Inv X (pins++pl) σ H s):Inv X pins σ H s:=I.pins_of fun p hp=>I.pin p (d8 _ (jx _ hp))
theorem xD{iter:Expr}{body:List Stmt}{wi:TI}{g:TG}{tb:TS}{pos:Pos}(hp:PassesOwn (model X.prog X.w) X.A X.env X.xe)(hc:X.calm=true)(hi:PI X tg iter wi)(hg:PG X tg g)(hb:PSs X body tb)
 (hs:∀x,foldedSetIterable iter X.env x=pure x:=by intro _;rfl):PS X (.For tg iter body [] pos) (yP wi g tb):=by
 intro pins s σ H D I h;refine wpAny_For (thn (hi pins s σ H _ I h) fun v s1 h1=>thn h1 fun itv s2 h2=>?_) hs;obtain ⟨it,fp,tn,J,H2,e,I2,T,st2,f2,W,⟨m0,w0⟩,turn⟩:=h2;subst e;have stat:∀{H':Hp},(∀b∈fp,H' b=none)->∀b∈fp,iV X pins H' b:=fun hn b hb=>⟨hn b hb,(f2 b hb).2⟩
 refine codeAny_forLoop_any (fun n s'=>∃i σ' H',Inv X pins σ' H' s'/\tn i s'.heap/\(∀b∈fp,H' b=none)/\W i n σ' H') ?_ m0 (zAM 0 σ H2 I2 st2 (fun b hb=>(f2 b hb).1) w0);rintro n s3 ⟨i,σ3,H3,I3,st3,fr3,w3⟩;rcases turn i n σ3 H3 w3 with ⟨stop,qn⟩ | ⟨go,N,hN,step⟩
 ·refine wpAny_passesOwn hp (thn (T.done X rfl rfl rfl hc i pins s3 σ3 H3 X.xe I3 (stat fr3) st3 stop) fun r s4 ⟨hr,I4⟩=>?_);subst hr;exact wpAny_execs_nil (zAE σ3 H3 I4 qn)
 ·refine wpAny_passesOwn hp (thn (T.item X rfl rfl rfl hc i pins s3 σ3 H3 X.xe I3 (stat fr3) st3 go) fun r s4 ⟨u,hr,h4⟩=>?_);subst hr;refine wpAny_passesOwn hp (thn h4 fun _ s5 hhx=>?_);obtain ⟨x,H5,I5,r5,y5,st5,fr5⟩:=hhx;have I5':=I5.pinned (stat fr5) (T.obj _ _ st5);refine wpAny_passesOwn hp (thn (hg _ s5 σ3 H5 x u _ I5' r5 (step x H5 y5)) fun _ s6 hhx=>?_);obtain ⟨σ6,H6,I6,q6⟩:=hhx;refine wpAny_passesOwn hp (thn (hb _ s6 σ6 H6 _ I6 q6) fun f s7 q7=>?_);have again:∀{σ7:St} {H7:Hp},Inv X (pins++fH fp s5.heap) σ7 H7 s7->N σ7 H7->∃m,m<n/\∃i σ' H',Inv X pins σ' H' s7/\tn i s7.heap/\(∀b∈fp,H' b=none)/\W i m σ' H':=fun {σ7 H7} I7 n7=>by obtain ⟨m',hm,w7⟩:=hN σ7 H7 n7;refine zn m' hm (zAM (i+1) σ7 H7 I7.unpinned (T.keep _ _ _ st5 fun b hb o e=>(I7.pin (b,o) (d8 _ (d8 _ (cV hb e)))).1) (fun b hb=>?_) w7);obtain ⟨o,e,d⟩:=T.obj _ _ st5 b hb;exact (I7.pin (b,o) (d8 _ (d8 _ (cV hb e)))).2.1
  cases f with
  |next=>obtain ⟨σ7,H7,I7,n7⟩:=q7;exact again I7 n7
  |cont=>obtain ⟨σ7,H7,I7,n7⟩:=q7;exact again I7 n7
  |brk=>obtain ⟨σ7,H7,I7,q7⟩:=q7;exact zAE σ7 H7 I7.unpinned q7
  |ret v=>obtain ⟨x7,σ7,H7,I7,r7,q7⟩:=q7;exact zAU x7 σ7 H7 I7.unpinned r7 q7
end
theorem qr{K:W.Frag}{a:Addr}{xs:List V}{g:TG}{tb:TS}{D:cG}(Pv:Nat->St->Hp->Prop)(h0:Pv 0 σ H)(hl:∀i σ H,i<=xs.length->Pv i σ H->SqL K H a xs)
 (hs:∀i x σ H,xs[i]?=some x->Pv i σ H->g x σ H fun σ2 H2=>tb {D with nx:=Pv (i+1),ct:=Pv (i+1),bk:=D.nx} σ2 H2) (hd:∀σ H,Pv xs.length σ H->D.nx σ H) :
 ∃W:Nat->Nat->St->Hp->Prop,(∃m,W 0 m σ H)/\∀i m σ H,W i m σ H->
   ((Itl K a).stop i H/\D.nx σ H)\/((Itl K a).go i H/\∃N:St->Hp->Prop,(∀σ' H',N σ' H'->∃m',m'<m/\W (i+1) m' σ' H')/\∀x H',(Itl K a).yld i H x H'->g x σ H' fun σ2 H2=>tb {D with nx:=N,ct:=N,bk:=D.nx} σ2 H2):=by
 refine zn (fun i m σ H=>m=xs.length-i/\i<=xs.length/\Pv i σ H) (zAD xs.length Jo (eC _) h0) ?_;rintro i m σ H ⟨rfl,hi,p⟩;have q:=hl i σ H hi p
 by_cases hlt:i<xs.length
 ·refine .inr ⟨zAE xs (xs[i]) q (by simp [hlt]),zn (Pv (i+1)) (fun σ' H' p'=>zAF (xs.length-(i+1)) Jn rfl hlt p') fun x H' y=>?_⟩;obtain ⟨e,y⟩:=y;subst e;exact hs i x σ _ (y xs q) p
 ·have e:i=xs.length:=by omega
  subst e;exact .inl ⟨zn xs q (zq9 _),hd σ H p⟩
theorem ou{lo:Int}{n:Nat}{g:TG}{tb:TS}{D:cG}(Pv:Nat->St->Hp->Prop)(h0:Pv 0 σ H)
 (hs:∀i σ H,i<n->Pv i σ H->g (.int (lo+i)) σ H fun σ2 H2=>tb {D with nx:=Pv (i+1),ct:=Pv (i+1),bk:=D.nx} σ2 H2) (hd:∀σ H,Pv n σ H->D.nx σ H) :
 ∃W:Nat->Nat->St->Hp->Prop,(∃m,W 0 m σ H)/\∀i m σ H,W i m σ H->
   ((Itr lo n).stop i H/\D.nx σ H)\/((Itr lo n).go i H/\∃N:St->Hp->Prop,(∀σ' H',N σ' H'->∃m',m'<m/\W (i+1) m' σ' H')/\∀x H',(Itr lo n).yld i H x H'->g x σ H' fun σ2 H2=>tb {D with nx:=N,ct:=N,bk:=D.nx} σ2 H2):=by
 refine zn (fun i m σ H=>m=n-i/\i<=n/\Pv i σ H) (zAD n Jo (eC _) h0) ?_;rintro i m σ H ⟨rfl,hi,p⟩
 by_cases hlt:i<n
 ·refine .inr ⟨hlt,zn (Pv (i+1)) (fun σ' H' p'=>zAF (n-(i+1)) Jn rfl hlt p') fun x H' y=>?_⟩;obtain ⟨e,y⟩:=y;subst e y;exact hs i σ _ hlt p
 ·have e:i=n:=by omega
  subst e;exact .inl ⟨zq9 _,hd σ H p⟩
end L2
namespace L2
abbrev R2:=V->V->Hp->VK->Prop
def OpR(X:Cx)(f:Value->Value->Sem Value)(r:R2):Prop:=
 ∀(pins:List (Addr×Obj)) (s:Shared) (σ:St) (H:Hp) (x y:V) (v u:Value) (Q:VK),Inv X pins σ H s->RelV x v->RelV y u->r x y H Q->
  wpAny (model X.prog X.w) X.A (f v u) (EP X pins σ Q) X.xe s
def UnR(X:Cx)(f:Value->Sem Value)(r:V->Hp->VK->Prop):Prop:=
 ∀(pins:List (Addr×Obj)) (s:Shared) (σ:St) (H:Hp) (x:V) (v:Value) (Q:VK),Inv X pins σ H s->RelV x v->r x H Q->
  wpAny (model X.prog X.w) X.A (f v) (EP X pins σ Q) X.xe s
def cv(X:Cx)(f:Value)(r:List V->Hp->VK->Prop):Prop:=
 ∀(pins:List (Addr×Obj)) (s:Shared) (σ:St) (H:Hp) (xs:List V) (us:List Value) (Q:VK),Inv X pins σ H s->Vals xs us->r xs H Q->
  wpAny (model X.prog X.w) X.A (call f us) (EP X pins σ Q) X.xe s
def AM(X:Cx)(r:V->Hp->(Bool->Hp->Prop)->Prop):Prop:=
 ∀(pins:List (Addr×Obj)) (s:Shared) (σ:St) (H:Hp) (x:V) (v:Value) (Q:Bool->Hp->Prop),Inv X pins σ H s->RelV x v->r x H Q->
  wpAny (model X.prog X.w) X.A (truthy v) (TP X pins σ Q) X.xe s
def tOp(r:R2)(ta tb:TE):TE:=fun σ H Q=>ta σ H fun x H1=>tb σ H1 fun y H2=>r x y H2 Q
def tUn(r:V->Hp->VK->Prop)(ta:TE):TE:=fun σ H Q=>ta σ H fun x H1=>r x H1 Q
def rI(C:Int->Int->Prop)(g:Int->Int->V):R2:=fun x y H Q=>∃i j,x=.int i/\y=.int j/\C i j/\Q (g i j) H
def rI0(g:Int->Int->V):R2:=fun x y H Q=>∃i j,x=.int i/\y=.int j/\Q (g i j) H
def rU(g:Int->V):V->Hp->VK->Prop:=fun x H Q=>∃i,x=.int i/\Q (g i) H
section
variable {X:Cx} {a b c:Expr} {ta tb tc:TE} {pos:Pos}
theorem wR(ha:PE X a ta)(hb:PE X b tb){pins:List (Addr×Obj)}{s:Shared}{σ:St}{H:Hp}{R:V->V->Hp->Prop}(I:Inv X pins σ H s)
  (h:ta σ H fun x H1=>tb σ H1 fun y H2=>R x y H2) {Q:Value->Shared->Prop} {f:Value->Value->Sem Value}
  (hf:∀v u s2 x y H2,Inv X pins σ H2 s2->RelV x v->RelV y u->R x y H2->wpAny (model X.prog X.w) X.A (f v u) Q X.xe s2) :
  wpAny (model X.prog X.w) X.A (eval a X.env) (fun v s₁=>wpAny (model X.prog X.w) X.A (eval b X.env) (fun u s₂=>wpAny (model X.prog X.w) X.A (f v u) Q X.xe s₂) X.xe s₁) X.xe s:=by
 refine thn (ha pins s σ H _ I h) fun v s1 hhx=>?_;obtain ⟨x,H1,I1,r1,q1⟩:=hhx;refine thn (hb pins s1 σ H1 _ I1 q1) fun u s2 hhx=>?_;obtain ⟨y,H2,I2,r2,q2⟩:=hhx;exact hf v u s2 x y H2 I2 r1 r2 q2
theorem opI{f:Value->Value->Sem Value}{C:Int->Int->Prop}{g:Int->Int->Int}
  (rule:∀(i j:Int)(t u:Tok)(s:Shared)(Q:Value->Shared->Prop)(E:Value->Shared->Prop),C i j->Q (.int (g i j) s.toks) {s with toks:=s.toks+1}->wpAny (model X.prog X.w) X.A (f (.int i t) (.int j u)) Q E s) :
  OpR X f (rI C fun i j=>.int (g i j)):=by
 intro pins s σ H x y v u Q I rx ry h;obtain ⟨i,j,rfl,rfl,hc,q⟩:=h;obtain ⟨t,rfl⟩:=rx;obtain ⟨t',rfl⟩:=ry;exact rule i j t t' s _ _ hc (zAA (.int (g i j)) H (I.tok _) ⟨_,rfl⟩ q)
theorem zC{f:Value->Value->Sem Value}{g:Int->Int->Int}
  (rule:∀(i j:Int)(t u:Tok)(s:Shared)(Q:Value->Shared->Prop)(E:Value->Shared->Prop),Q (.int (g i j) s.toks) {s with toks:=s.toks+1}->wpAny (model X.prog X.w) X.A (f (.int i t) (.int j u)) Q E s) :
  OpR X f (rI0 fun i j=>.int (g i j)):=by
 intro pins s σ H x y v u Q I rx ry h;obtain ⟨i,j,rfl,rfl,q⟩:=h;obtain ⟨t,rfl⟩:=rx;obtain ⟨t',rfl⟩:=ry;exact rule i j t t' s _ _ (zAA (.int (g i j)) H (I.tok _) ⟨_,rfl⟩ q)
theorem uo{f:Value->Value->Sem Value}{g:Int->Int->Bool}
  (rule:∀(i j:Int)(t u:Tok)(s:Shared)(Q:Value->Shared->Prop)(E:Value->Shared->Prop),Q (.bool (g i j)) s->wpAny (model X.prog X.w) X.A (f (.int i t) (.int j u)) Q E s) :
  OpR X f (rI0 fun i j=>.bl (g i j)):=by
 intro pins s σ H x y v u Q I rx ry h;obtain ⟨i,j,rfl,rfl,q⟩:=h;obtain ⟨t,rfl⟩:=rx;obtain ⟨t',rfl⟩:=ry;exact rule i j t t' s _ _ (zAA (.bl (g i j)) H I rfl q)
def pI(i j:Int):Prop:=0<=j/\j<=1000000/\i.natAbs<2 ^ 64
def CMul(i j:Int):Prop:=(-(2 ^ 64)<i/\i<2 ^ 64)\/(-(2 ^ 64)<j/\j<2 ^ 64)
theorem CMul.ok{i j:Int}(h:CMul i j):IntMulOk i j:=by
 rcases h with ⟨h1,h2⟩ | ⟨h1,h2⟩
 ·exact .of_left (intBits_le_64 h1 h2)
 ·exact .of_right (intBits_le_64 h1 h2)
theorem ma(k:Nat):(0:Int)<=2 ^ k:=by rw [two_pow_cast];exact Int.natCast_nonneg _
theorem xp:OpR X (binaryOp .Add) (rI0 fun i j=>.int (i+j)):=zC fun _ _ _ _ _ _ _ q=>add_int q
theorem xw:OpR X (binaryOp .Sub) (rI0 fun i j=>.int (i-j)):=zC fun _ _ _ _ _ _ _ q=>sub_int q
theorem xt:OpR X (binaryOp .Mult) (rI CMul fun i j=>.int (i * j)):=opI fun _ _ _ _ _ _ _ hc q=>mul_int q hc.ok
theorem xr:OpR X (binaryOp .Mod) (rI (fun _ j=>0<j) fun i j=>.int (i % j)):=opI fun i j _ _ _ _ _ hc q=>by have h1:(0:Int)<j:=hc;exact mod_int' Jn (by rw [Int.fmod_eq_emod_of_nonneg i Jn];exact q)
theorem xu:OpR X (binaryOp .Pow) (rI pI fun i j=>.int (i ^ j.toNat)):=opI fun _ _ _ _ _ _ _ hc q=>pow_int_small hc.1 hc.2.1 hc.2.2 q
theorem xv:OpR X (binaryOp .LShift) (rI pI fun i j=>.int (i * 2 ^ j.toNat)):=opI fun _ _ _ _ _ _ _ hc q=>lshift_int_small hc.1 hc.2.1 hc.2.2 q
theorem unI{f:Value->Sem Value}{g:Int->Int}
  (rule:∀(i:Int)(t:Tok)(s:Shared)(Q:Value->Shared->Prop)(E:Value->Shared->Prop),Q (.int (g i) s.toks) {s with toks:=s.toks+1}->wpAny (model X.prog X.w) X.A (f (.int i t)) Q E s) :
  UnR X f (rU fun i=>.int (g i)):=by
 intro pins s σ H x v Q I rx h;obtain ⟨i,rfl,q⟩:=h;obtain ⟨t,rfl⟩:=rx;exact rule i t s _ _ (zAA (.int (g i)) H (I.tok _) ⟨_,rfl⟩ q)
theorem yZ:UnR X (unaryOp .USub) (rU fun i=>.int (-i)):=unI fun _ _ _ _ _ q=>neg_int q
end
def lU:V->V->Bool
 | .non,.non=>true | .non,.int _=>true | .int _,.non=>true | .non,.bl _=>true | .bl _,.non=>true | .non,.str _=>true | .str _,.non=>true
 | .int _,.int _=>true | .bl _,.bl _=>true | .str _,.str _=>true | .byt _,.byt _=>true
 | .int _,.str _=>true | .str _,.int _=>true | .bl _,.str _=>true | .str _,.bl _=>true
 |_,_=>false
def rEq:R2:=fun x y H Q=>lU x y=true/\Q (.bl (decide (x=y))) H
def rNe:R2:=fun x y H Q=>lU x y=true/\Q (.bl (! decide (x=y))) H
theorem mK{i j:Int}:decide (V.int i=V.int j)=(i==j):=by rw [kK];simp
theorem qh{i j:Bool}:decide (V.bl i=V.bl j)=(i==j):=by rw [kK];simp
theorem mL{i j:Str}:decide (V.str i=V.str j)=(i==j):=by rw [kK];simp
theorem mJ{i j:Array UInt8}:decide (V.byt i=V.byt j)=(i.toList==j.toList):=by
 rw [kK]
 cases i
 cases j
 simp
section
variable {X:Cx} {a b c:Expr} {ta tb tc:TE} {pos:Pos}
theorem aS{pins:List (Addr×Obj)}{σ:St}{H:Hp}{s:Shared}{Q:VK}{k k':Bool}(I:Inv X pins σ H s)(q:Q (.bl k) H)(e:k=k'):EP X pins σ Q (.bool k') s:=by subst e;exact zAA (.bl k) H I rfl q
theorem aU:OpR X (compareOp .Eq) rEq:=by
 intro pins s σ H x y v u Q I rx ry h;obtain ⟨hs,q⟩:=h
 cases x with
 |non=>
  cases rx
  cases y with
  |non=>cases ry;exact PySem.EqNone.eq_none_none (aS I q Jo)
  |bl j=>cases ry;exact PySem.EqNone.eq_none_bool (aS I q Jo)
  |int j=>obtain ⟨t',rfl⟩:=ry;exact PySem.EqNone.eq_none_int (aS I q Jo)
  |str j=>obtain ⟨t',rfl⟩:=ry;exact PySem.EqNone.eq_none_str (aS I q Jo)
  |_=>exact absurd (show false=true from hs) zq8
 |bl i=>
  cases rx
  cases y with
  |non=>cases ry;exact PySem.EqNone.eq_bool_none (aS I q Jo)
  |bl j=>cases ry;exact eq_bool (aS I q qh)
  |str j=>obtain ⟨t',rfl⟩:=ry;exact PySem.EqMixed.eq_bool_str (aS I q Jo)
  |_=>exact absurd (show false=true from hs) zq8
 |int i=>
  obtain ⟨t,rfl⟩:=rx
  cases y with
  |non=>cases ry;exact PySem.EqNone.eq_int_none (aS I q Jo)
  |int j=>obtain ⟨t',rfl⟩:=ry;exact eq_int (aS I q mK)
  |str j=>obtain ⟨t',rfl⟩:=ry;exact PySem.EqMixed.eq_int_str (aS I q Jo)
  |_=>exact absurd (show false=true from hs) zq8
 |str i=>
  obtain ⟨t,rfl⟩:=rx
  cases y with
  |non=>cases ry;exact PySem.EqNone.eq_str_none (aS I q Jo)
  |bl j=>cases ry;exact PySem.EqMixed.eq_str_bool (aS I q Jo)
  |int j=>obtain ⟨t',rfl⟩:=ry;exact PySem.EqMixed.eq_str_int (aS I q Jo)
  |str j=>obtain ⟨t',rfl⟩:=ry;exact eq_str (aS I q mL)
  |_=>exact absurd (show false=true from hs) zq8
 |byt i=>
  obtain ⟨t,rfl⟩:=rx
  cases y with
  |byt j=>obtain ⟨t',rfl⟩:=ry;exact W.eq_bytes (aS I q mJ)
  |_=>exact absurd (show false=true from hs) zq8
 |_=>cases y<;>exact absurd (show false=true from hs) zq8
theorem dP:OpR X (compareOp .NotEq) rNe:=by
 intro pins s σ H x y v u Q I rx ry h;obtain ⟨hs,q⟩:=h
 cases x with
 |non=>
  cases rx
  cases y with
  |non=>cases ry;exact PySem.EqNone.ne_none_none (aS I q Jo)
  |bl j=>cases ry;exact PySem.EqNone.ne_none_bool (aS I q Jo)
  |int j=>obtain ⟨t',rfl⟩:=ry;exact PySem.EqNone.ne_none_int (aS I q Jo)
  |str j=>obtain ⟨t',rfl⟩:=ry;exact PySem.EqNone.ne_none_str (aS I q Jo)
  |_=>exact absurd (show false=true from hs) zq8
 |bl i=>
  cases rx
  cases y with
  |non=>cases ry;exact PySem.EqNone.ne_bool_none (aS I q Jo)
  |bl j=>cases ry;exact ne_bool (aS I q (congrArg not qh))
  |str j=>obtain ⟨t',rfl⟩:=ry;exact PySem.EqMixed.ne_bool_str (aS I q Jo)
  |_=>exact absurd (show false=true from hs) zq8
 |int i=>
  obtain ⟨t,rfl⟩:=rx
  cases y with
  |non=>cases ry;exact PySem.EqNone.ne_int_none (aS I q Jo)
  |int j=>obtain ⟨t',rfl⟩:=ry;exact ne_int (aS I q (congrArg not mK))
  |str j=>obtain ⟨t',rfl⟩:=ry;exact PySem.EqMixed.ne_int_str (aS I q Jo)
  |_=>exact absurd (show false=true from hs) zq8
 |str i=>
  obtain ⟨t,rfl⟩:=rx
  cases y with
  |non=>cases ry;exact PySem.EqNone.ne_str_none (aS I q Jo)
  |bl j=>cases ry;exact PySem.EqMixed.ne_str_bool (aS I q Jo)
  |int j=>obtain ⟨t',rfl⟩:=ry;exact PySem.EqMixed.ne_str_int (aS I q Jo)
  |str j=>obtain ⟨t',rfl⟩:=ry;exact ne_str (aS I q (congrArg not mL))
  |_=>exact absurd (show false=true from hs) zq8
 |byt i=>
  obtain ⟨t,rfl⟩:=rx
  cases y with
  |byt j=>obtain ⟨t',rfl⟩:=ry;exact W.ne_bytes (aS I q (congrArg not mJ))
  |_=>exact absurd (show false=true from hs) zq8
 |_=>cases y<;>exact absurd (show false=true from hs) zq8
theorem zG:OpR X (compareOp .Lt) (rI0 fun i j=>.bl (decide (i<j))):=uo fun _ _ _ _ _ _ _ q=>lt_int q
theorem zF:OpR X (compareOp .LtE) (rI0 fun i j=>.bl (decide (i<=j))):=uo fun _ _ _ _ _ _ _ q=>le_int q
theorem zE:OpR X (compareOp .Gt) (rI0 fun i j=>.bl (decide (j<i))):=uo fun _ _ _ _ _ _ _ q=>gt_int q
theorem zD:OpR X (compareOp .GtE) (rI0 fun i j=>.bl (decide (j<=i))):=uo fun _ _ _ _ _ _ _ q=>ge_int q
theorem iF:OpR X (compareOp .In) (fun x y H Q=>∃i j,x=.str i/\y=.str j/\Q (.bl (!(Builtin.Str.occurrences j i 0 j.length 1).isEmpty)) H):=by intro pins s σ H x y v u Q I rx ry h;obtain ⟨i,j,rfl,rfl,q⟩:=h;obtain ⟨t,rfl⟩:=rx;obtain ⟨t',rfl⟩:=ry;exact in_str (aS I q rfl)
theorem xq:OpR X (compareOp .Is) (fun x y H Q=>y=.non/\Q (.bl (decide (x=.non))) H):=by
 intro pins s σ H x y v u Q I rx ry h;obtain ⟨rfl,q⟩:=h
 cases ry
 refine is_none_gen (aS I q ?_)
 cases x<;>first
  | (cases rx;rfl)
  | (obtain ⟨t,rfl⟩:=rx;rfl)
theorem jh:OpR X (compareOp .NotIn) (fun x y H Q=>∃i j,x=.str i/\y=.str j/\Q (.bl (!(!(Builtin.Str.occurrences j i 0 j.length 1).isEmpty))) H):=by intro pins s σ H x y v u Q I rx ry h;obtain ⟨i,j,rfl,rfl,q⟩:=h;obtain ⟨t,rfl⟩:=rx;obtain ⟨t',rfl⟩:=ry;exact notIn_str (aS I q rfl)
theorem au(b:Expr){op:CmpOp}(h:op≠.In:=by decide)(h2:op≠.NotIn:=by decide):behindInMarks op b=false:=by
 have e1:(op==CmpOp.In)=false:=by cases op<;>first | rfl | exact absurd rfl h
 have e2:(op==CmpOp.NotIn)=false:=by cases op<;>first | rfl | exact absurd rfl h2
 cases b<;>simp [behindInMarks,e1,e2]
def sf(t:TE):TT:=fun σ H Q=>t σ H fun x H'=>∃k,x=.bl k/\Q k H'
def hZ(r r':R2)(ta tb tc:TE):TE:=fun σ H Q=>ta σ H fun x H1=>tb σ H1 fun y H2=>r x y H2 fun z H3=>∃k,z=.bl k/\
 (if k=true then tc σ H3 fun w' H4=>r' y w' H4 Q else Q (.bl false) H3)
def wJ(K:W.Frag)(x:V)(H:Hp)(k:Bool):Prop:=
 match x with
 | .non=>k=false
 | .bl b=>k=b
 | .int i=>k=(i != 0)
 | .str y=>y.length<=sizeLine/\k=((y.length:Int) != 0)
 | .byt y=>y.size<=sizeLine/\k=((y.size:Int) != 0)
 | .ref p=>(∃xs,SqL K H p xs/\k=! xs.isEmpty)\/(∃xs,SqT K H p xs/\k=! xs.isEmpty)\/∃kvs,H p=some (.dK kvs)/\k=! kvs.isEmpty
 |_=>False
theorem kY{κ:Type}{kvs:List (κ×V)}{vs:List (κ×Value)}(r:KV kvs vs):(! vs.isEmpty)=! kvs.isEmpty:=by cases r<;>rfl
theorem gF{xs:List V}{its:List Value}(r:Vals xs its):(! its.toArray.isEmpty)=! xs.isEmpty:=by cases r<;>simp
theorem eN:(sizeLine:Nat)<2 ^ 63:=by rw [zq3];decide
theorem yW:AM X (fun x H Q=>∃k,wJ X.K x H k/\Q k H):=by
 intro pins s σ H x v Q I rx h;obtain ⟨k,e,q⟩:=h;have hl:=eN;have hs:sizeLine=16777216:=zq3
 cases x with
 |non=>
  cases rx
  have e':k=false:=e;subst e';exact truthy_none (zn H I q)
 |bl b=>
  cases rx
  have e':k=b:=e;subst e';exact wpAny_truthy_bool (zn H I q)
 |int i=>
  obtain ⟨t,rfl⟩:=rx;have e':k=(i != 0):=e;subst e';exact PySem.P.truthy_int (zn H I q)
 |str y=>
  obtain ⟨t,rfl⟩:=rx;obtain ⟨hy,e'⟩:y.length<=sizeLine/\k=((y.length:Int) != 0):=e;subst e';exact PySem.P.truthy_str Jn (zn H (I.tok _) q)
 |byt y=>
  obtain ⟨t,rfl⟩:=rx;obtain ⟨hy,e'⟩:y.size<=sizeLine/\k=((y.size:Int) != 0):=e;subst e';exact W.truthy_bytes Jn (zn H (I.tok _) q)
 |ref p=>
  cases rx
  have e':(∃xs,SqL X.K H p xs/\k=! xs.isEmpty)\/(∃xs,SqT X.K H p xs/\k=! xs.isEmpty)\/∃kvs,H p=some (.dK kvs)/\k=! kvs.isEmpty:=e;rcases e' with ⟨xs,hx,e'⟩ | ⟨xs,hx,e'⟩ | ⟨kvs,hx,e'⟩
  ·subst e';obtain ⟨its,r,pl,hz⟩:=I.list hx;have hlen:=r.length;exact wpAny_truthy_list pl.isList (by simp only [List.size_toArray];omega) (zn H (I.tok _) (by rw [gF r];exact q))
  ·subst e';obtain ⟨its,r,pl,hz⟩:=I.tuple hx;have hlen:=r.length;exact truthy_tuple pl (by simp only [List.size_toArray];omega) (zn H (I.tok _) (by rw [gF r];exact q))
  ·subst e';obtain ⟨hz,hS,vs,r,m⟩:kvs.length<=sizeLine/\(p==sysModules)=false/\∃vs,KV kvs vs/\s.heap.DictOf (j9 X.prog X.w) p vs:=I.hok p _ hx;have hlen:kvs.length=vs.length:=Paired.length r;exact wpAny_truthy_dict hS m Jn (zn H (I.tok _) (by rw [kY r];exact q))
 |_=>exact (show False from e).elim
theorem rj(ha:PE X a ta)(he:∀whole,isTrue a X.env whole=(do let v <- whole;standAt a.pos;holding [v] (truthy v))):
  PT X a (fun σ H Q=>ta σ H fun x H'=>∃k,wJ X.K x H' k/\Q k H'):=by
 intro pins s σ H Q I h;exact isTrue_plain (thn (ha pins s σ H _ I h) fun v s1 ⟨x,H1,I1,r1,q1⟩=>yW pins s1 σ H1 x v Q I1 r1 q1) (he _)
theorem aC:OpR X (binaryOp .Add) (fun x y H Q=>∃i j,x=.str i/\y=.str j/\i.length+j.length<=sizeLine/\Q (.str (i++j)) H):=by intro pins s σ H x y v u Q I rx ry h;obtain ⟨i,j,rfl,rfl,hz,q⟩:=h;obtain ⟨t,rfl⟩:=rx;obtain ⟨t',rfl⟩:=ry;exact add_str (fun t' tk=>zAA (.str (i++j)) H (I.tok _) ⟨_,rfl⟩ q) hz
theorem dC{x:V}{us:List Value}(r:Vals [x] us):∃u,us=[u]/\RelV x u:=by
 cases r with
 |cons r1 r2=>cases r2;exact zn _ rfl r1
theorem sr{x y:V}{us:List Value}(r:Vals [x,y] us):∃u w',us=[u,w']/\RelV x u/\RelV y w':=by
 cases r with
 |cons r1 r2=>
  cases r2 with
  |cons r3 r4=>cases r4;exact zAA _ _ rfl r1 r3
theorem nV:cv X (.type "int") (fun xs H Q=>(∃i,xs=[.int i]/\Q (.int i) H)\/∃k,xs=[.bl k]/\Q (.int (if k then 1 else 0)) H):=by
 intro pins s σ H xs us Q I r h;rcases h with ⟨i,rfl,q⟩ | ⟨k,rfl,q⟩
 ·obtain ⟨u,rfl,t,rfl⟩:=dC r;exact call_int_int (zAA (.int i) H I ⟨_,rfl⟩ q)
 ·obtain ⟨u,rfl,r1⟩:=dC r
  cases r1
  exact call_int_bool (zAA (.int (if k then 1 else 0)) H (I.tok _) ⟨_,rfl⟩ q)
theorem eU:cv X (.type "str") (fun xs H Q=>∃i,xs=[.int i]/\i.natAbs.log2<1920/\Q (.str (toString i)) H):=by intro pins s σ H xs us Q I r h;obtain ⟨i,rfl,hz,q⟩:=h;obtain ⟨u,rfl,t,rfl⟩:=dC r;exact PySem.P.str_of_int hz (zAA (.str _) H (I.tok _) ⟨_,rfl⟩ q)
end
end L2
namespace L2
structure ObjM(h:Heap)(x dx C:Addr)(mA:Str->Option Value):Prop where
 obj:h.get? x=some (W.instObj C dx)
 ns:h.Ns1 dx mA
 ne:dx≠x
theorem oB{h:Heap}{dx:Addr}{mA:Str->Option Value}(n:h.Ns1 dx mA):∃od,h.get? dx=some od/\∀name,W.lookIn name od=some (mA name):=by
 obtain ⟨o,es,ep,ho,hd,hk,_,hm⟩:=n;refine zn o ho fun name=>?_;have e:=hm name;unfold nsFind findBy at e;rw [<- Array.find?_toList] at e;unfold W.lookIn;rw [hd];dsimp only
 split
 ·rename_i y q
  rw [q] at e;exact congrArg some e
 ·rename_i q
  rw [q] at e;have a:es.toList.any (·.refKey)=false:=by rw [List.any_eq_false];intro y hy;obtain ⟨z,t,hkey⟩:=hk y (Array.mem_toList_iff.mp hy);simp [DictEntry.refKey,hkey]
  have a':¬es.toList.any (·.refKey)=true:=by rw [a];exact zq8
  rw [zq0 a'];exact congrArg some e
theorem ObjM.look{h:Heap}{x dx C:Addr}{mA:Str->Option Value}(I:ObjM h x dx C mA):∃od,W.InstAt h x (W.instObj C dx) C (some od)/\∀name,W.lookIn name od=some (mA name):=
 let ⟨od,ho,hl⟩:=oB I.ns
 (zn od ⟨I.obj,rfl,rfl,ho⟩ hl)
section
variable {prog:Program} {w:World} {A:Around} {E:Value->Shared->Prop} {s:Shared} {K:W.Frag} {x dx C f:Addr} {mA:Str->Option Value} {name:Str} {v:Value}
theorem tT{expr:Bool}{Q:Value->Shared->Prop}(X:K.In s.heap)(I:ObjM s.heap x dx C mA)(hg:W.plainGet K C name=true)(hh:W.hasDictIn K C=true)
  (ha:W.findIn K (.ref C) name=some none) (hv:mA name=some v) (hv':W.handedIn v=true) (h:Q v {s with toks:=s.toks+1}) :
  wpAny (model prog w) A (getAttr (.ref x) name expr) Q E s:=by
 obtain ⟨od,J,hl⟩:=I.look;exact W.get_value X J (W.plainGet_of hg).1 (W.findObj_own hh ha rfl (by rw [hl,hv])) hv' h
theorem qw{pl:Sem Bool}{Q:Value×List Value->Shared->Prop}(X:K.In s.heap)(I:ObjM s.heap x dx C mA)(hg:W.plainGet K C name=true)
  (hf:W.findIn K (.ref C) name=some (some (.ref f))) (ht:W.isFn K (.ref f)=true) (hv:mA name=none) (h:Q (.ref f,[.ref x]) s) :
  wpAny (model prog w) A (getMethod (.ref x) name pl) Q E s:=by
 obtain ⟨od,J,hl⟩:=I.look;exact W.method_fn X J (W.plainGet_of hg).1 (W.plainGet_of hg).2 hf (zq65.mp ht) (by show (W.lookIn name od).map (·.isSome)=some false;rw [hl,hv];rfl) h
theorem uQ{ns:List Str}{Q:Unit->Shared->Prop}(X:K.In s.heap)(I:ObjM s.heap x dx C mA)
  (hs:W.findIn K (.ref C) "__setattr__"=some (some (.builtin "object.__setattr__"))) (hp:W.plainOver K C=true) (ht:W.takerIn K C name=some none) (hh:W.hasDictIn K C=true)
  (hw:PySem.Within mA ns) (hsz:ns.length<=sizeLine)
  (h:∀h',ObjM h' x dx C (fun y=>if y=name then some v else mA y)->Heap.SameBut dx s.heap h'->Q () {s with heap:=h',toks:=s.toks+2}) :
  wpAny (model prog w) A (setAttr (.ref x) name v) Q E s:=by
 obtain ⟨od,J,hl⟩:=I.look;refine W.set_plain X J hs (W.osa_open (s:={s with toks:=s.toks+1}) (r:=none) X J hp ht fun b=>?_);obtain ⟨cd,hc,hd'⟩:=W.any_some hh;have hx:s.heap.get? x=some ⟨.ref C,some dx,.plain,#[]⟩:=I.obj;refine zq7 (cu (zq7 (zq7 (wpAny_loadPart hx (zq7 (W.Looks.here (s:={s with toks:=s.toks+1}) (W.looks_clsIn X hc) ?_))))));rw [hd'];refine cu (a:=some dx) (zq7 (cu (zq7 ?_)));refine wpAny_nsSet1 (s:={s with toks:=s.toks+1}) I.ns fun h' hn2 hs2=>?_;obtain ⟨oD,esD,epD,hoD,hdD,hcD⟩:=hn2.count (PySem.Within.cons name v hw);refine zq7 (wpAny_lookBehind hoD (by rw [hdD];exact pastItsLine_dict (gf hcD (by rw [cF];omega))) ?_);exact cu (h _ ⟨(hs2.2 _ (Ne.symm I.ne)).trans I.obj,hn2,I.ne⟩ hs2)
theorem qB{R:Result->Shared->Prop}{vs:List Value}{kw:List (Str×Value)}(X:K.In s.heap)(hm:W.makesIn K C=true)
  (hi:W.findIn K (.ref C) "__init__"=some (some (.ref f))) (hf:W.typeIn K (.ref f)=some (.type "function"))
  (h:codeAny (model prog w) (A.under (.builtin "type.__call__" ⟨.ref C::vs,kw⟩)) (.call (.ref f) ⟨.ref (s.heap.objs.size+1)::vs,kw⟩) (W.InitBack (s.heap.objs.size+1) R)
   {s with heap:=(s.heap.push W.emptyDict).push (W.instObj C s.heap.objs.size)}) :
  codeAny (model prog w) A (.call (.ref C) ⟨vs,kw⟩) R s:=by
 obtain ⟨hh,g,d,t,os⟩:=s;exact W.make_core (W.makes_of X hm) (W.looks_findIn X hi) (fun self=>W.bind_fn X self hf) (.inl rfl) h
end
def cW(f:Str)(v:V):List (Str×V)->List (Str×V)
 | []=>[(f,v)]
 | (g,x)::r=>if g=f then (g,v)::r else (g,x)::cW f v r
theorem fW(f g:Str)(v:V):∀fs:List (Str×V),(cW f v fs).lookup g=if g=f then some v else fs.lookup g
 | []=>by
  show List.lookup g [(f,v)]=_
  by_cases h:g=f
  ·have hb:(g==f)=true:=zq65.mpr h;simp only [List.lookup,hb,if_pos h]
  ·have hb:(g==f)=false:=beq_eq_false_iff_ne.mpr h;simp only [List.lookup,hb,if_neg h]
 | (k,x)::r=>by
  have ih:=fW f g v r;rw [show cW f v ((k,x)::r)=(if k=f then (k,v)::r else (k,x)::cW f v r) from rfl]
  by_cases hk:k=f
  ·rw [zq1 hk]
   by_cases h:g=k
   ·have hb:(g==k)=true:=zq65.mpr h;simp only [List.lookup,hb,if_pos (h.trans hk)]
   ·have hb:(g==k)=false:=beq_eq_false_iff_ne.mpr h;simp only [List.lookup,hb,if_neg (fun e:g=f=>h (e.trans hk.symm))]
  ·rw [zq0 hk]
   by_cases h:g=k
   ·have hb:(g==k)=true:=zq65.mpr h;simp only [List.lookup,hb,if_neg (fun e:g=f=>hk (h.symm.trans e))]
   ·have hb:(g==k)=false:=beq_eq_false_iff_ne.mpr h;simp only [List.lookup,hb];exact ih
theorem fE(f:Str)(v:V):∀fs:List (Str×V),f∈(cW f v fs).map (·.1)/\∀g,g∈fs.map (·.1)->g∈(cW f v fs).map (·.1)
 | []=>⟨by simp [cW],fun g h=>by simp at h⟩
 | (k,x)::r=>by
  obtain ⟨i1,i2⟩:=fE f v r;rw [show cW f v ((k,x)::r)=(if k=f then (k,v)::r else (k,x)::cW f v r) from rfl]
  by_cases hk:k=f
  ·rw [zq1 hk];subst hk;exact ⟨Jo,fun g h=>by simpa using h⟩
  ·rw [zq0 hk];refine ⟨?_,fun g h=>?_⟩
   ·rw [dX];exact bH _ i1
   ·rw [dX] at h ⊢;rcases zq4.mp h with e | e
    ·exact zq4.mpr (.inl e)
    ·exact bH _ (i2 g e)
theorem fV(f:Str)(v:V):∀fs:List (Str×V),(cW f v fs).length<=fs.length+1
 | []=>by simp [cW]
 | (k,x)::r=>by
  have ih:=fV f v r;rw [show cW f v ((k,x)::r)=(if k=f then (k,v)::r else (k,x)::cW f v r) from rfl]
  by_cases hk:k=f
  ·rw [zq1 hk,cF,cF];omega
  ·rw [zq0 hk,cF,cF];omega
theorem RelO.some_of{v:V}{o:Option Value}(r:RelO (some v) o):∃u,o=some u/\RelV v u:=by
 cases o with
 |none=>exact (show False from r).elim
 |some u=>exact zn u rfl r
theorem RelO.none_of{o:Option Value}(r:RelO none o):o=none:=by
 cases o with
 |none=>rfl
 |some u=>exact (show False from r).elim
theorem ow{v:V}{u:Value}(r:RelV v u):W.handedIn u=true:=by
 cases v with
 |non=>cases (show u=Value.none from r);rfl
 |bl b=>cases (show u=Value.bool b from r);rfl
 |int i=>obtain ⟨t,e⟩:=(show ∃t,u=Value.int i t from r);cases e;rfl
 |str x=>obtain ⟨t,e⟩:=(show ∃t,u=Value.str x t from r);cases e;rfl
 |byt b=>obtain ⟨t,e⟩:=(show ∃t,u=Value.bytes b t from r);cases e;rfl
 |flt b=>obtain ⟨t,e⟩:=(show ∃t,u=Value.float b t from r);cases e;rfl
 |ref a=>cases (show u=Value.ref a from r);rfl
 |ty n=>cases (show u=Value.type n from r);rfl
section
variable {P:Program} {w:World} {H H':Hp} {h h':Heap} {a C dx:Addr} {fs fs':List (Str×V)}
theorem j8(hok:HOk P w H h)(e:H a=some (.ins C dx fs)):∃mA,ObjM h a dx C mA/\(∀f,RelO (fs.lookup f) (mA f))/\PySem.Within mA (fs.map (·.1))/\fs.length<=1000/\H dx=some (.own a):=by
 obtain ⟨d,z,ne,ob,mA,n,r,q⟩:=(show ObjOk P w H h a (.ins C dx fs) from hok a _ e)
 exact zBC mA ⟨ob,n,ne⟩ r q z d
end
structure Cls(K:W.Frag)(C:Addr):Prop where
 pg:W.plainGet K C Str.empty=true
 hd:W.hasDictIn K C=true
 po:W.plainOver K C=true
 sa:W.findIn K (.ref C) "__setattr__"=some (some (.builtin "object.__setattr__"))
theorem Cls.get{K:W.Frag}{C:Addr}(c:Cls K C)(f:Str):W.plainGet K C f=true:=c.pg
def NoAttr(K:W.Frag)(C:Addr)(f:Str):Prop:=W.findIn K (.ref C) f=some none
theorem NoAttr.taker{K:W.Frag}{C:Addr}{f:Str}(n:NoAttr K C f):W.takerIn K C f=some none:=by unfold W.takerIn;rw [show W.findIn K (.ref C) f=some none from n];rfl
structure nP(K:W.Frag)(C:Addr)(m:Str)(f:Addr):Prop where
 at_:W.findIn K (.ref C) m=some (some (.ref f))
 fn:W.isFn K (.ref f)=true
 kp:W.keepIn K (.ref f)=true
section
variable {X:Cx} {pins:List (Addr×Obj)} {σ:St} {H:Hp} {s:Shared} {a C dx:Addr} {fs:List (Str×V)} {f:Str} {v:V} {A:Around} {E:Value->Shared->Prop}
theorem kW{b:Bool}{Q:Value->Shared->Prop}(I:Inv X pins σ H s)(e:H a=some (.ins C dx fs))(c:Cls X.K C)(n:NoAttr X.K C f)(l:fs.lookup f=some v)
  (h:∀u s',Inv X pins σ H s'->RelV v u->Q u s'):wpAny (model X.prog X.w) A (getAttr (.ref a) f b) Q E s:=by
 obtain ⟨mA,O,r,_,_,_⟩:=j8 I.hok e;obtain ⟨u,hu,ru⟩:=RelO.some_of (v:=v) (o:=mA f) (by rw [<- l];exact r f);exact tT I.kIn O (c.get f) c.hd n hu (ow ru) (h u _ (I.tok _) ru)
theorem eM{m:Str}{g:Addr}{pl:Sem Bool}{Q:Value×List Value->Shared->Prop}(I:Inv X pins σ H s)(e:H a=some (.ins C dx fs))(c:Cls X.K C)(k:nP X.K C m g)(l:fs.lookup m=none)
  (h:Q (.ref g,[.ref a]) s):wpAny (model X.prog X.w) A (getMethod (.ref a) m pl) Q E s:=by
 obtain ⟨mA,O,r,_,_,_⟩:=j8 I.hok e;have hn:mA m=none:=RelO.none_of (by rw [<- l];exact r m);exact qw I.kIn O (c.get m) k.at_ k.fn hn h
theorem lV{y:V}{u:Value}{Q:Unit->Shared->Prop}(I:Inv X pins σ H s)(e:H a=some (.ins C dx fs))(c:Cls X.K C)(n:NoAttr X.K C f)(hl:fs.length<1000)(ry:RelV y u)
  (h:∀s',Inv X pins σ (upd H a (.ins C dx (cW f y fs))) s'->Q () s'):wpAny (model X.prog X.w) A (setAttr (.ref a) f u) Q E s:=by
 obtain ⟨mA,O,r,wi,_,ho⟩:=j8 I.hok e;have hz:(fs.map (·.1)).length<=sizeLine:=by rw [zq2,zq3];omega
 refine uQ I.kIn O c.sa c.po n.taker c.hd wi hz fun h' O' sb=>h _ ?_;have hd:∃o,h'.get? dx=some o:=let ⟨o,_,_,e',_⟩:=O'.ns;⟨o,e'⟩;refine I.write (x:=a) (e:=dx) (by rw [e];exact True.intro) (.inr ho) (fun b q hb z=>(sb.2 b hb).trans z) hd ?_;refine zAH (by rw [aE O.ne];exact ho) ?_ O.ne O'.obj (zAD _ O'.ns (fun g=>?_) fun g hg=>?_)
 ·have:=fV f y fs;omega
 ·show RelO ((cW f y fs).lookup g) (if g=f then some u else mA g);rw [fW]
  by_cases q:g=f
  ·rw [zq1 q,zq1 q];exact ry
  ·rw [zq0 q,zq0 q];exact r g
 ·by_cases q:g=f
  ·rw [q];exact (fE f y fs).1
  ·refine (fE f y fs).2 g (wi g fun z=>hg ?_);show (if g=f then some u else mA g)=none;rw [zq0 q];exact z
theorem Inv.made(I:Inv X pins σ H s):Inv X pins σ (upd (upd H s.heap.objs.size (.own (s.heap.objs.size+1))) (s.heap.objs.size+1) (.ins C s.heap.objs.size []))
  {s with heap:=(s.heap.push W.emptyDict).push (W.instObj C s.heap.objs.size)}:=by
 have e1:(s.heap.push W.emptyDict).get? s.heap.objs.size=some W.emptyDict:=er s.heap rfl;have e2:((s.heap.push W.emptyDict).push (W.instObj C s.heap.objs.size)).get? (s.heap.objs.size+1)=some (W.instObj C s.heap.objs.size):=by have:=er (s.heap.push W.emptyDict) (o:=W.instObj C s.heap.objs.size) rfl;rwa [uY] at this
 have e3:(s.heap.push W.emptyDict).Ns s.heap.objs.size (fun _=>none):=zAM W.emptyDict (#[]) _ e1 rfl (fun e he=>absurd he Jo) fun _=>rfl
 have I1:=I.laid (a:=s.heap.objs.size) (o:=.own (s.heap.objs.size+1)) (h':=s.heap.push W.emptyDict) (t':=s.toks) (fun b u q=>cz _ q) (zq9 _) ⟨_,e1⟩;refine I1.laid (a:=s.heap.objs.size+1) (o:=.ins C s.heap.objs.size []) (t':=s.toks) (fun b u q=>cz _ q) (z9 (uY _ _)) ?_;have ne:s.heap.objs.size≠s.heap.objs.size+1:=cZ (uZ _);refine zAH (by rw [aE ne,ae]) (eC _) ne e2 (zAD (fun _=>none) ((Heap.Ns1.of_empty e3).at fun o q=>cz _ q) (fun _=>True.intro) fun y hy=>absurd rfl hy)
theorem tG{prog:Program}{w:World}{env:Env}{e:Expr}{f:Str}{pos:Pos}{s:Shared}{Q:Value->Shared->Prop}(hb:attributeBase e f env (eval e env)=eval e env)
  (h:wpAny (model prog w) A (eval e env) (fun o s₁=>wpAny (model prog w) A (getAttr o f true) Q E s₁) E s):wpAny (model prog w) A (eval (.Attribute e f pos) env) Q E s:=
 Attribute_any_ h (by rw [arm_eval_Attribute,hb])
end
def Ay(K:W.Frag)(ta:TE)(f:Str):TE:=fun σ H Q=>ta σ H fun x H1=>∃a C dx fs v,x=.ref a/\H1 a=some (.ins C dx fs)/\Cls K C/\NoAttr K C f/\fs.lookup f=some v/\Q v H1
def As(K:W.Frag)(ta tv:TE)(f:Str):TS:=fun D σ H=>tv σ H fun y H1=>ta σ H1 fun x H2=>∃a C dx fs,x=.ref a/\H2 a=some (.ins C dx fs)/\Cls K C/\NoAttr K C f/\fs.length<1000/\
 D.nx σ (upd H2 a (.ins C dx (cW f y fs)))
section
variable {X:Cx} {o e value:Expr} {f:Str} {pos pos' tpos:Pos} {ta tv:TE}
theorem vm{pl:Sem Bool}{m:Str}{apos:Pos}{args:List Expr}{pins:List (Addr×Obj)}{s:Shared}{σ:St}{H:Hp}{Q:Value->Shared->Prop}{te:TE}(he:PE X e te)(I:Inv X pins σ H s)
  (h:te σ H fun x H1=>∃a C dx fs g,x=.ref a/\H1 a=some (.ins C dx fs)/\Cls X.K C/\nP X.K C m g/\fs.lookup m=none/\
   ∀s1,Inv X pins σ H1 s1->wpAny (model X.prog X.w) X.A (callWith pos (.ref g) [.ref a] (backTo pos (starEach args X.env)) (backToKw pos (keywordEach [] X.env))) Q X.xe s1)
  (ht:eval (.Call (.Attribute e m apos) args [] pos) X.env=(do
   let ov <- eval e X.env
   standAt apos.atName
   let (f,first) <- holding [ov] (getMethod ov m pl)
   callWith pos f first (backTo pos (starEach args X.env)) (backToKw pos (keywordEach [] X.env)))) :
  wpAny (model X.prog X.w) X.A (eval (.Call (.Attribute e m apos) args [] pos) X.env) Q X.xe s:=by
 refine W.methodCall_KW (pl:=pl) (thn (he pins s σ H _ I h) fun u s1 hhx=>?_) ht;obtain ⟨x,H1,I1,rx,a,C,dx,fs,g,ex,ea,c,k,l,q⟩:=hhx;subst ex;obtain rfl:u=Value.ref a:=rx;exact eM I1 ea c k l (q s1 I1)
end
section
variable {X:Cx} {pins:List (Addr×Obj)} {σ:St} {H:Hp} {s:Shared} {A:Around} {E:Value->Shared->Prop} {Q:Value->Shared->Prop} {c:Value} {b:Bool}
end
end L2
namespace L2
structure Room(k:Nat)(A:Around):Prop where
 hd:A.handled=none
 dp:A.depth+3 * k+5<recursionLimit
 un:A.units+16 * k+200<cLine
 gd:A.guards=some []
theorem Room.mono{j k:Nat}{A:Around}(r:Room k A)(h:j<=k):Room j A:=⟨r.hd,by have:=r.dp;omega,by have:=r.un;omega,r.gd⟩
theorem Room.m{n m:Nat}{A:Around}(h:Room n A)(l:m<=n:=by first | decide | omega):Room m A:=h.mono l
theorem Room.deeper{k:Nat}{A:Around}(r:Room (k+1) A)(env:Env):Room k (A.deeper env):=
 ⟨r.hd,by have:=r.dp;show A.depth+1+3 * k+5<_;omega,by have:=r.un;show A.units+3+16 * k+200<_;omega,r.gd⟩
theorem lj{A:Around}{C:Addr}{us:List Value}{kw:List (Str×Value)}:(A.under (.builtin "type.__call__" ⟨.ref C::us,kw⟩)).depth=A.depth+1:=by first | rfl | simp [Around.under,Code.weight,Code.isCreation,Code.isGuard,Code.isCaller,Code.frames,Code.isFrame,guardIds]
theorem lq{A:Around}{C:Addr}{us:List Value}{kw:List (Str×Value)}:(A.under (.builtin "type.__call__" ⟨.ref C::us,kw⟩)).units=A.units+1:=by first | rfl | simp [Around.under,Code.cUnits,Code.frames,Code.isFrame]
theorem Room.make{k:Nat}{A:Around}(r:Room (k+1) A)(C:Addr)(us:List Value)(kw:List (Str×Value)):Room k (A.under (.builtin "type.__call__" ⟨.ref C::us,kw⟩)):=
 ⟨r.hd,by have:=r.dp;rw [lj];omega,by have:=r.un;rw [lq];omega,by first | exact r.gd | (have e:=r.gd;show pushGuards (Code.guards _) A.guards=_;rw [e,Code.guards,zq0 Jk];rfl)⟩
theorem Room.depth{k:Nat}{A:Around}(r:Room k A):A.depth<recursionLimit:=by have:=r.dp;omega
theorem Room.units{k:Nat}{A:Around}(r:Room k A):A.units+64<cLine:=by have:=r.un;omega
def m4:TA:=fun _ H Q=>Q [] H
def sd(ta:TE)(tr:TA):TA:=fun σ H Q=>ta σ H fun x H1=>tr σ H1 fun xs H2=>Q (x::xs) H2
section
variable {X:Cx} {e:Expr} {es:List Expr} {te:TE} {t:TA} {pos:Pos}
theorem qX:PA X [] m4:=fun _ _ _ _ H Q I h=>Calls.spliced_nil (zAA ([]) H I .nil h)
theorem nc(ha:PE X e te)(hr:PA X es t)(hs:starEach (e::es) X.env=(false,eval e X.env)::starEach es X.env:=by rfl):PA X (e::es) (sd te t):=by intro pos pins s σ H Q I h;rw [hs];show wpAny _ _ (spliced ((false,eval e X.env)::backTo pos (starEach es X.env))) _ _ s;refine Calls.spliced_cons (thn (ha pins s σ H _ I h) fun u s1 hhx=>?_);obtain ⟨x,H1,I1,r1,q1⟩:=hhx;exact thn (hr pos pins s1 σ H1 _ I1 q1) fun us s2 ⟨xs,H2,I2,r2,q2⟩=>zAA (x::xs) H2 I2 (.cons r1 r2) q2
def AD(t:TA):TE:=fun σ H Q=>t σ H fun xs H1=>xs.length<=sizeLine/\∀p,H1 p=none->Q (.ref p) (upd H1 p (.tup xs))
def Az(t:TA):TE:=fun σ H Q=>t σ H fun xs H1=>xs.length<=sizeLine/\∀p,H1 p=none->Q (.ref p) (upd H1 p (.lst xs))
end
abbrev Sp:=List V->Hp->VK->XK->Prop
abbrev CXT:=List Env->Hp->Shared->XK->Value->Shared->Prop
structure Env0(P:Program)(w:World)(K:W.Frag)(mg:Str->Option Value)(base:Heap)(A:Around)(outer:List Env)(s:Shared)(H:Hp):Prop where
 frames:A.frames=some outer
 mod:Mod K mg base
 bs:∀b o,base.get? b=some o->s.heap.get? b=some o/\H b=none
 bsz:base.objs.size<=s.heap.objs.size
 funs:s.heap.FunFrames base outer
 frf:∀b∈frs outer,H b=none
 hok:HOk P w H s.heap
 bare:AllBare s.gens
def CE(outer:List Env)(P:Program)(w:World)(H:Hp)(s:Shared)(Q:VK)(u:Value)(s':Shared):Prop:=
 ∃v H',s'.os=s.os/\AllBare s'.gens/\Un (frs outer) [] H H' s.heap s'.heap/\HOk P w H' s'.heap/\RelV v u/\Q v H'
def CR(CX:CXT)(outer:List Env)(P:Program)(w:World)(H:Hp)(s:Shared)(Q:VK)(E:XK)(r:Result)(s':Shared):Prop:=
 match r with
 | .ok (.ret u)=>CE outer P w H s Q u s'
 | .ok _=>False
 | .error e=>CX outer H s E e s'
structure FnOk(P:Program)(w:World)(K:W.Frag)(mg:Str->Option Value)(base:Heap)(CX:CXT)(k:Nat)(f:Addr)(fd:FuncData)(ps:List Str)(sp:Sp):Prop where
 len:∀vs H Q E,sp vs H Q E->vs.length=ps.length
 run:∀(A:Around)(outer:List Env)(s:Shared)(H:Hp)(args:Args)(us:List Value)(vs:List V)(Q:VK)(E:XK),Room k A->Env0 P w K mg base A outer s H->BindsTo s fd args (ps.zip us)->Vals vs us->sp vs H Q E->
  codeAny (model P w) A (.call (.ref f) args) (CR CX outer P w H s Q E) s
theorem FnOk.mono{P:Program}{w:World}{K:W.Frag}{mg:Str->Option Value}{base:Heap}{CX:CXT}{j k:Nat}{f:Addr}{fd:FuncData}{ps:List Str}{sp:Sp}(F:FnOk P w K mg base CX j f fd ps sp)(h:j<=k):
  FnOk P w K mg base CX k f fd ps sp:=⟨F.len,fun A outer s H args us vs Q E hr=>F.run A outer s H args us vs Q E (hr.mono h)⟩
theorem Env0.make{P:Program}{w:World}{K:W.Frag}{mg:Str->Option Value}{base:Heap}{A:Around}{outer:List Env}{s:Shared}{H:Hp}(e:Env0 P w K mg base A outer s H)(C:Addr)(us:List Value)(kw:List (Str×Value)):
  Env0 P w K mg base (A.under (.builtin "type.__call__" ⟨.ref C::us,kw⟩)) outer s H:=⟨by first | exact e.frames | (simpa [Around.under,Code.envs,Code.isFrame,pushEnvs] using e.frames),e.mod,e.bs,e.bsz,e.funs,e.frf,e.hok,e.bare⟩
section
variable {X:Cx} {pins:List (Addr×Obj)} {σ:St} {H:Hp} {s s':Shared}
theorem Inv.env0(I:Inv X pins σ H s):Env0 X.prog X.w X.K X.mg X.base X.A X.stack s H:=
 ⟨I.ok.frames,I.ok.mod,I.bs,gf I.ok.bsz I.sz,I.stack,I.stkFree,I.hok,I.bare⟩
theorem Inv.after{Q:VK}{u:Value}(I:Inv X pins σ H s)(h:CE X.stack X.prog X.w H s Q u s'):EP X pins σ Q u s':=by obtain ⟨v,H',os,bare,un,hok,r,q⟩:=h;obtain ⟨hh,g,d,t,os'⟩:=s';obtain rfl:os'=s.os:=os;exact zAA v H' (I.call (h':=hh) (g':=g) (d':=d) (t':=t) (ch:=[]) un hok bare (fun b z=>absurd z Jo)) r q
end
def iN(sp:Sp)(dvs:List V)(E:XK)(t:TA):TE:=fun σ H Q=>t σ H fun vs H1=>sp (vs++dvs) H1 Q E
def eK(C:Addr)(m:Str)(sp:Sp)(dvs:List V)(E:XK)(ta:TE)(t:TA):TE:=fun σ H Q=>ta σ H fun x H1=>∃a dx fs,x=.ref a/\H1 a=some (.ins C dx fs)/\fs.lookup m=none/\
 t σ H1 fun vs H2=>sp (x::(vs++dvs)) H2 Q E
def kF(C:Addr)(sp:Sp)(dvs:List V)(E:XK)(t:TA):TE:=fun σ H Q=>t σ H fun vs H1=>∀x dx,H1 x=none->H1 dx=none->dx≠x->
 sp (.ref x::(vs++dvs)) (upd (upd H1 dx (.own x)) x (.ins C dx [])) (fun v H2=>v=.non/\Q (.ref x) H2) E
def Binds(K:W.Frag)(fd:FuncData)(ps:List Str)(ds:List Value):Prop:=
 ∀(s:Shared)(us:List Value),K.In s.heap->(us++ds).length=ps.length->BindsTo s fd ⟨us,[]⟩ (ps.zip (us++ds))
theorem Binds.all{K:W.Frag}{fd:FuncData}{ps:List Str}(h:∀us:List Value,us.length=ps.length->bindArgs fd ⟨us,[]⟩=pure (ps.zip us)):Binds K fd ps []:=fun s us _ hl=>by rw [gg] at hl ⊢;exact .of_eq (h us hl)
def cH(CX:CXT)(X:Cx)(E:XK):Prop:=∀(pins:List (Addr×Obj)) (σ:St) (H:Hp) (s:Shared) (e:Value) (s':Shared),Inv X pins σ H s->CX X.stack H s E e s'->X.xe e s'
section
variable {X:Cx} {CX:CXT} {k:Nat} {f C:Addr} {fd:FuncData} {ps:List Str} {sp:Sp} {dvs:List V} {ds:List Value} {E:XK} {x m:Str} {p pos apos:Pos} {e o:Expr} {es:List Expr} {ta:TE} {t:TA}
theorem lS{pins:List (Addr×Obj)}{σ:St}{H:Hp}{s:Shared}{Q:VK}{us:List Value}{vs:List V}(F:FnOk X.prog X.w X.K X.mg X.base CX k f fd ps sp)(hr:Room k X.A)(hb:Binds X.K fd ps ds)(hd:Vals dvs ds)(hx:cH CX X E)
  (I:Inv X pins σ H s) (r:Vals vs us) (h:sp (vs++dvs) H Q E):wpAny (model X.prog X.w) X.A (call (.ref f) us) (EP X pins σ Q) X.xe s:=by
 have r2:Vals (vs++dvs) (us++ds):=r.append hd;have hl:(us++ds).length=ps.length:=by rw [<- r2.length];exact F.len _ _ _ _ h
 refine wpAny_call (codeAny_mono (F.run X.A X.stack s H ⟨us,[]⟩ (us++ds) (vs++dvs) Q E hr I.env0 (hb s us I.kIn hl) r2 h) fun r s' hq=>?_)
 cases r with
 |error e=>exact hx pins σ H s e s' I hq
 |ok fl=>
  cases fl with
  |ret u=>exact I.after hq
  |next=>exact False.elim hq
  |brk=>exact False.elim hq
  |cont=>exact False.elim hq
theorem nh(F:FnOk X.prog X.w X.K X.mg X.base CX k f fd ps sp)(hr:Room k X.A)(hg:Gl X x)(hm:X.mg x=some (.ref f))(hk:W.keepIn X.K (.ref f)=true)(hb:Binds X.K fd ps ds)(hd:Vals dvs ds)(hx:cH CX X E)
  (ha:PA X (e::es) t) (hdb:(x==("__debug__":Str))=false:=by decide) (he:starEach (e::es) X.env=(false,eval e X.env)::starEach es X.env:=by rfl) (hpl:(backTo pos (starEach es X.env)).any (·.1)=false:=by rfl) :
  PE X (.Call (.Name x p) (e::es) [] pos) (iN sp dvs E t):=by
 intro pins s σ H Q I h;refine wpAny_Call_Name_kw (f9 I hg hm ?_ hdb);refine W.callWith_K (h₀:=X.base) I.ok.mod.kin hk (thn (ha pos pins s σ H _ I h) fun us s1 ⟨vs,H1,I1,r,q⟩=>⟨I1.kIn,?_⟩) he hpl;exact lS F hr hb hd hx I1 r q
theorem jk{pl:Sem Bool}(he:PE X o ta)(c:Cls X.K C)(hm:nP X.K C m f)(F:FnOk X.prog X.w X.K X.mg X.base CX k f fd ps sp)(hr:Room k X.A)(hb:Binds X.K fd ps ds)(hd:Vals dvs ds)(hx:cH CX X E)(ha:PA X (e::es) t)
  (hst:starEach (e::es) X.env=(false,eval e X.env)::starEach es X.env:=by rfl) (hpl:(backTo pos (starEach es X.env)).any (·.1)=false:=by rfl)
  (ht:eval (.Call (.Attribute o m apos) (e::es) [] pos) X.env=(do
   let ov <- eval o X.env
   standAt apos.atName
   let (f,first) <- holding [ov] (getMethod ov m pl)
   callWith pos f first (backTo pos (starEach (e::es) X.env)) (backToKw pos (keywordEach [] X.env))):=by rfl) :
  PE X (.Call (.Attribute o m apos) (e::es) [] pos) (eK C m sp dvs E ta t):=by
 intro pins s σ H Q I h;refine W.methodCall_KW (pl:=pl) (thn (he pins s σ H _ I h) fun u s1 hhx=>?_) ht;obtain ⟨x,H1,I1,rx,a,dx,fs,ex,ea,l,q⟩:=hhx;subst ex;obtain rfl:u=Value.ref a:=rx;refine eM I1 ea c hm l ?_;refine W.callWith_K (first:=[.ref a]) (h₀:=X.base) I.ok.mod.kin hm.kp (thn (ha pos pins s1 σ H1 _ I1 q) fun us s2 ⟨vs,H2,I2,r,q2⟩=>⟨I2.kIn,?_⟩) hst hpl;exact lS (us:=.ref a::us) (vs:=.ref a::vs) F hr hb hd hx I2 (.cons rfl r) q2
theorem ki{pl:Sem Bool}(he:PE X o ta)(c:Cls X.K C)(hm:nP X.K C m f)(F:FnOk X.prog X.w X.K X.mg X.base CX k f fd ps sp)(hr:Room k X.A)(hb:Binds X.K fd ps ds)(hd:Vals dvs ds)(hx:cH CX X E)
  (ht:eval (.Call (.Attribute o m apos) [] [] pos) X.env=(do
   let ov <- eval o X.env
   standAt apos.atName
   let (f,first) <- holding [ov] (getMethod ov m pl)
   callWith pos f first (backTo pos (starEach [] X.env)) (backToKw pos (keywordEach [] X.env))):=by rfl) :
  PE X (.Call (.Attribute o m apos) [] [] pos) (eK C m sp dvs E ta m4):=by
 intro pins s σ H Q I h;refine W.methodCall_KW (pl:=pl) (thn (he pins s σ H _ I h) fun u s1 hhx=>?_) ht;obtain ⟨x,H1,I1,rx,a,dx,fs,ex,ea,l,q⟩:=hhx;subst ex;obtain rfl:u=Value.ref a:=rx;refine eM I1 ea c hm l ?_;exact W.callWith_K0 (first:=[.ref a]) I1.kIn hm.kp (lS (us:=[.ref a]) (vs:=[.ref a]) F hr hb hd hx I1 (.cons rfl .nil) q)
structure Mk(K:W.Frag)(C f:Addr):Prop where
 makes:W.makesIn K C=true
 init:W.findIn K (.ref C) "__init__"=some (some (.ref f))
 fn:W.isFn K (.ref f)=true
 kp:W.keepIn K (.ref C)=true
theorem rM{pins:List (Addr×Obj)}{σ:St}{H:Hp}{s:Shared}{Q:VK}{us:List Value}{vs:List V}(M:Mk X.K C f)(F:FnOk X.prog X.w X.K X.mg X.base CX k f fd ps sp)(hr:Room (k+1) X.A)(hb:Binds X.K fd ps ds)(hd:Vals dvs ds)
  (hx:cH CX X E) (I:Inv X pins σ H s) (r:Vals vs us)
  (h:∀x dx,H x=none->H dx=none->dx≠x->sp (.ref x::(vs++dvs)) (upd (upd H dx (.own x)) x (.ins C dx [])) (fun v H2=>v=.non/\Q (.ref x) H2) E) :
  wpAny (model X.prog X.w) X.A (call (.ref C) us) (EP X pins σ Q) X.xe s:=by
 have hq:=h (s.heap.objs.size+1) s.heap.objs.size (I.hok.fresh (v0 _)) (I.hok.fresh (zq9 _)) (cZ (uZ _));have I2:=Inv.made (C:=C) I;have r2:Vals (V.ref (s.heap.objs.size+1)::(vs++dvs)) (Value.ref (s.heap.objs.size+1)::(us++ds)):=.cons rfl (r.append hd);have hl:(Value.ref (s.heap.objs.size+1)::us++ds).length=ps.length:=by have e:=r2.length;rw [F.len _ _ _ _ hq] at e;exact e.symm
 refine wpAny_call (qB (f:=f) I.kIn M.makes M.init (zq65.mp M.fn) (codeAny_mono (F.run _ X.stack _ _ ⟨Value.ref (s.heap.objs.size+1)::us,[]⟩ (Value.ref (s.heap.objs.size+1)::(us++ds)) _ _ E (hr.make C us [])
  (I2.env0.make C us []) (hb _ (Value.ref (s.heap.objs.size+1)::us) I2.kIn hl) r2 hq) fun r s' hq'=>?_))
 cases r with
 |error e=>exact hx pins σ _ _ e s' I2 hq'
 |ok fl=>
  cases fl with
  |ret u=>
   obtain ⟨v,H',I3,rv,ev,q3⟩:=I2.after hq';subst ev;exact ⟨rv,zAA (V.ref (s.heap.objs.size+1)) H' I3 rfl q3⟩
  |next=>exact False.elim hq'
  |brk=>exact False.elim hq'
  |cont=>exact False.elim hq'
theorem uv(M:Mk X.K C f)(F:FnOk X.prog X.w X.K X.mg X.base CX k f fd ps sp)(hr:Room (k+1) X.A)(hg:Gl X x)(hm:X.mg x=some (.ref C))(hb:Binds X.K fd ps ds)(hd:Vals dvs ds)(hx:cH CX X E)
  (ha:PA X (e::es) t) (hdb:(x==("__debug__":Str))=false:=by decide) (he:starEach (e::es) X.env=(false,eval e X.env)::starEach es X.env:=by rfl) (hpl:(backTo pos (starEach es X.env)).any (·.1)=false:=by rfl) :
  PE X (.Call (.Name x p) (e::es) [] pos) (kF C sp dvs E t):=by
 intro pins s σ H Q I h;refine wpAny_Call_Name_kw (f9 I hg hm ?_ hdb);refine W.callWith_K (h₀:=X.base) I.ok.mod.kin M.kp (thn (ha pos pins s σ H _ I h) fun us s1 ⟨vs,H1,I1,r,q⟩=>⟨I1.kIn,?_⟩) he hpl;exact rM M F hr hb hd hx I1 r q
end
section
variable {X:Cx} {CX:CXT} {k:Nat} {f C:Addr} {fd:FuncData} {ps ks:List Str} {sp:Sp} {E:XK} {x m:Str} {p pos apos kpos:Pos} {e o:Expr} {es:List Expr} {kws:List Keyword} {te ta:TE} {t tk:TA} {nm:Option Str}
variable {g:List Value->List Value->List Value} {gV:List V->List V->List V}
end
structure aG(N P:List Str)(sc:Scope):Prop where
 kind:sc.kind=.function
 co:sc.isCoroutine=false
 gen:sc.isGenerator=false
 nd:N.Nodup
 pre:N.take P.length=P
 par:∀x∈P,sc.names.lookup x=some .local\/sc.names.lookup x=some .cell
 nofree:∀y∈sc.names,y.2≠.free
theorem ij{kindOf:Str->Option NameKind}{x:Str}:∀{binds:List (Str×Value)} {m:Str->Option Value},(∀v,(x,v)∉binds)->bindL kindOf binds m x=m x
 | [],_,_=>rfl
 | (n,v)::r,m,h=>by
  unfold bindL;rw [ij fun w hw=>h w (bH _ hw)]
  split
  ·have:x≠n:=by rintro rfl;exact h v bV
   simp [this]
  ·rfl
theorem ig{kindOf:Str->Option NameKind}{x:Str}:∀{binds:List (Str×Value)} {m:Str->Option Value},(∀v,(x,v)∉binds)->bindC kindOf binds m x=m x
 | [],_,_=>rfl
 | (n,v)::r,m,h=>by
  unfold bindC;rw [ig fun w hw=>h w (bH _ hw)]
  split
  ·rfl
  ·have:x≠n:=by rintro rfl;exact h v bV
   simp [this]
theorem ii{kindOf:Str->Option NameKind}{x:Str}{v:Value}:∀{P:List Str} {vs:List Value} {i:Nat} {m:Str->Option Value},P.Nodup->P[i]?=some x->vs[i]?=some v->kindOf x=some .local->
  bindL kindOf (P.zip vs) m x=some v
 | [],_,_,_,_,h,_,_=>by simp at h
 |_::_,[],_,_,_,_,h,_=>by simp at h
 |p::P,w::vs,0,m,nd,h1,h2,hk=>by
  simp at h1 h2;subst h1;subst h2;show bindL kindOf ((p,w)::P.zip vs) m p=_;unfold bindL;rw [ij fun v hv=>(zq27.mp nd).1 (za hv).1,zq1 hk];simp
 |p::P,w::vs,i+1,m,nd,h1,h2,hk=>by show bindL kindOf ((p,w)::P.zip vs) m x=_;unfold bindL;exact ii (i:=i) (zq27.mp nd).2 (by simpa using h1) (by simpa using h2) hk
theorem ie{kindOf:Str->Option NameKind}{x:Str}{v:Value}:∀{P:List Str} {vs:List Value} {i:Nat} {m:Str->Option Value},P.Nodup->P[i]?=some x->vs[i]?=some v->kindOf x≠some .local->
  bindC kindOf (P.zip vs) m x=some v
 | [],_,_,_,_,h,_,_=>by simp at h
 |_::_,[],_,_,_,_,h,_=>by simp at h
 |p::P,w::vs,0,m,nd,h1,h2,hk=>by
  simp at h1 h2;subst h1;subst h2;show bindC kindOf ((p,w)::P.zip vs) m p=_;unfold bindC;rw [ig fun v hv=>(zq27.mp nd).1 (za hv).1,zq0 hk];simp
 |p::P,w::vs,i+1,m,nd,h1,h2,hk=>by show bindC kindOf ((p,w)::P.zip vs) m x=_;unfold bindC;exact ie (i:=i) (zq27.mp nd).2 (by simpa using h1) (by simpa using h2) hk
def start(N:List Str)(vs:List V):St:=vs.map some++List.replicate (N.length-vs.length) none
def ek(CX:CXT)(P:Program)(w:World)(K:W.Frag)(mg:Str->Option Value)(base:Heap)(N:List Str)(qual:Str)(scope:Scope)(f:Addr)(cd:Value)(A:Around)(outer:List Env)(s:Shared)(H:Hp)(E:XK):Cx where
 prog:=P
 w:=w
 K:=K
 mg:=mg
 base:=base
 A:=A.deeper (envOfC qual scope s.heap.objs.size f cd)
 N:=N
 s₀:=s
 H₀:=H
 env:=envOfC qual scope s.heap.objs.size f cd
 outer:=outer
 stack:=envOfC qual scope s.heap.objs.size f cd::outer
 ex:=[]
 calm:=true
 fn:=fun _=>true
 pn:=[]
 xe:=fun e s'=>wpAny (model P w) (A.deeper (envOfC qual scope s.heap.objs.size f cd)) (leaving (envOfC qual scope s.heap.objs.size f cd) e) (fun _ s''=>CX outer H s E e s'') (fun e' s''=>CX outer H s E e' s'') s'
theorem jL{sc:Scope}{n:Nat}{x:Str}(h:sc.names.lookup x=some .cell):∃c,(cellsFrom n sc.names []).lookup x=some c:=by have q:=W.cellsFrom_some sc.names n [] (.inl h);exact Option.isSome_iff_exists.mp q
theorem oz{CX:CXT}{P:Program}{w:World}{K:W.Frag}{mg:Str->Option Value}{base:Heap}{N ps:List Str}{qual:Str}{scope:Scope}{f:Addr}{cd:Value}{A:Around}{outer:List Env}{s s1:Shared}{H:Hp}{E:XK}{us:List Value}{vs:List V}
  (S:aG N ps scope) (hd:A.handled=none) (e0:Env0 P w K mg base A outer s H) (hl:vs.length=ps.length) (r:Vals vs us)
  (x:InCallC s s.heap.objs.size (bindL (envOfC qual scope s.heap.objs.size f cd).kindOf (ps.zip us) fun _=>none) (cellsFrom (s.heap.objs.size+1) scope.names []) (bindC (envOfC qual scope s.heap.objs.size f cd).kindOf (ps.zip us) fun _=>none) s1) :
  Inv (ek CX P w K mg base N qual scope f cd A outer s H E) [] (start N vs) H s1:=by
 have hpl:ps.length<=N.length:=by have:=congrArg List.length S.pre;rw [gh] at this;omega
 obtain ⟨h1,tk,rfl,hk⟩:=x.done;have noA:∀b:Addr,b∉(ek CX P w K mg base N qual scope f cd A outer s H E).ex:=fun b z=>absurd (show b∈([]:List Addr) from z) Jo;refine ⟨⟨e0.mod,S.kind,rfl,rfl,zq9 _,fun y z c h1 h2=>?_,fun y hy=>?_,fun y c _ h=>?_,fun _=>hd,Around.frames_deeper e0.frames,.inr ⟨rfl,rfl⟩,fun b z=>absurd z (noA b),e0.bs,e0.bsz,fun b _ _=>noA b,fun b z=>absurd z (noA b),e0.funs,e0.frf⟩,
  rfl,e0.bare,Un.kept hk,zn _ x.toInCall.ns fun i y v h1 h2 h3=>?_,fun y c h=>⟨_,x.cell y c h⟩,e0.hok.fresh (zq9 _),fun y c h=>?_,fun p hp=>absurd (show p∈([]:List (Addr×Obj)) from hp) Jo,e0.hok.kept hk,?_⟩
 ·exact name_of_addr x.apart (PySem.mem_of_lookup h1) (PySem.mem_of_lookup h2)
 ·have hy:scope.names.lookup y=some .cell\/scope.names.lookup y=some .free:=hy;rcases hy with hy | hy
  ·exact jL hy
  ·exact absurd rfl (S.nofree _ (PySem.mem_of_lookup hy))
 ·exact z5 (x.above y c (PySem.mem_of_lookup h))
 ·have hi:i<vs.length:=by
   unfold start at h2
   by_cases hi:i<vs.length
   ·exact hi
   ·rw [zb (by simpa using hi)] at h2;rw [wy] at h2
    split at h2<;>cases h2
  have ha:vs[i]?=some v:=by
   unfold start at h2;rw [wz (by simpa using hi),cA] at h2
   cases e:vs[i]? with
   |none=>rw [e] at h2;cases h2
   |some a=>rw [e] at h2;cases h2;rfl
  obtain ⟨u,hu,rv⟩:=r.get ha;have hp:ps[i]?=some y:=by rw [<- S.pre,List.getElem?_take_of_lt Jn];exact h1
  have ndP:ps.Nodup:=by rw [<- S.pre];exact S.nd.sublist (List.take_sublist _ _)
  refine zn u rv ?_;rcases S.par y (dr hp) with k | k
  ·exact .inl ⟨k,ii ndP hp hu k⟩
  ·obtain ⟨c,e⟩:=jL (n:=s.heap.objs.size+1) k;refine .inr ⟨.inl k,zn c e ?_⟩;have q:=x.cell y c e;rw [ie ndP hp hu (by show scope.names.lookup y≠_;rw [k];decide)] at q;exact q
 ·exact e0.hok.fresh (z5 (x.above y c (PySem.mem_of_lookup h)))
 ·unfold start;show _=N.length;rw [cf,zq2,wA];omega
theorem vg{CX:CXT}{P:Program}{w:World}{K:W.Frag}{mg:Str->Option Value}{base:Heap}{k:Nat}{f:Addr}{name qual:Str}{params:Arguments}{body:List Stmt}{scope:Scope}{dV kV doc pm cdv ct oc:Value}{an od:Option Addr}
  {osl:Array (Option Value)} {N ps:List Str} {sp:Sp} (lk:K.lookup f=some ⟨oc,od,.func (W.fnOf name qual params body scope dV kV doc pm an cdv ct),osl⟩) (hcd:W.codeIn K cdv qual=true) (S:aG N ps scope)
  (len:∀vs H Q E,sp vs H Q E->vs.length=ps.length)
  (hbody:∀(A:Around)(outer:List Env)(s:Shared)(H:Hp)(vs:List V)(Q:VK)(E:XK),Room k (A.deeper (envOfC qual scope s.heap.objs.size f cdv))->sp vs H Q E->
   ∃t,PSs (ek CX P w K mg base N qual scope f cdv A outer s H E) body t/\t {nx:=fun _ H'=>Q .non H',rt:=Q} (start N vs) H) :
  FnOk P w K mg base CX (k+1) f (W.fnOf name qual params body scope dV kV doc pm an cdv ct) ps sp:=by
 refine ⟨len,fun A outer s H args us vs Q E hr e0 hb r hsp=>?_⟩;have hl:=len _ _ _ _ hsp;have KX:K.In s.heap:=e0.mod.kin.keeps fun b o e=>(e0.bs b o e).1;have lim:s.heap.NoLimit:=e0.mod.nolimit.keeps fun b o e=>(e0.bs b o e).1;have hkind:∀y∈ps.zip us,scope.names.lookup y.1=some .local\/(scope.names.lookup y.1=some .cell/\((cellsFrom (s.heap.objs.size+1) scope.names []).lookup y.1).isSome=true):=fun ⟨n,v⟩ hy=>by
  rcases S.par n (za hy).1 with q | q
  ·exact .inl q
  ·exact .inr ⟨q,W.cellsFrom_some _ _ _ (.inl q)⟩
 refine codeAny_call_function hr.depth (KX _ _ lk) rfl S.co S.gen rfl (W.codeRec_of KX hcd) (hb _ _ _ _ ?_);refine wpAny_newFunctionEnv_cells S.kind hkind fun env he s1 x=>?_;subst he;refine ⟨lim.keeps x.toInCall.keep,codeAny_func ?_⟩;obtain ⟨t,ht,hq⟩:=hbody A outer s H vs Q E (hr.deeper _) hsp;have I:Inv (ek CX P w K mg base N qual scope f cdv A outer s H E) [] (start N vs) H s1:=oz S hr.hd e0 hl r x;refine fO (ht [] s1 (start N vs) H _ I hq) (fun fl s' hs=>?_) fun e s' hs=>hs;have fin:∀{σ':St} {H':Hp} {v:V} {u:Value},Inv (ek CX P w K mg base N qual scope f cdv A outer s H E) [] σ' H' s'->RelV v u->Q v H'->CE outer P w H s Q u s':=
  fun {σ' H' v u} J rv q=>zBD v H' J.os J.bare J.base J.hok rv q
 cases fl with
 |ret u=>
  obtain ⟨v,σ',H',J,rv,q⟩:=hs;exact fin J rv q
 |next=>
  obtain ⟨σ',H',J,q⟩:=hs;exact fin (v:=V.non) (u:=Value.none) J rfl q
 |brk=>
  obtain ⟨_,_,_,q⟩:=hs;exact False.elim q
 |cont=>obtain ⟨_,_,_,q⟩:=hs;exact False.elim q
end L2
namespace L2
section
variable {X:Cx} {x:Str} {p pos:Pos} {e:Expr} {es:List Expr} {t:TA} {id T:String} {r:List V->Hp->VK->Prop}
def tCB(r:List V->Hp->VK->Prop)(t:TA):TE:=fun σ H Q=>t σ H fun vs H1=>r vs H1 Q
theorem qY(hc:cv X (.builtin id) r)(hg:Gl X x)(hm:X.mg x=none)(hv:bootBuiltins x=some (.builtin id))(ha:PA X (e::es) t)(hn:x≠"__name__":=by decide) (hdb:(x==("__debug__":Str))=false:=by decide)
  (he:starEach (e::es) X.env=(false,eval e X.env)::starEach es X.env:=by rfl) (hpl:(backTo pos (starEach es X.env)).any (·.1)=false:=by rfl):PE X (.Call (.Name x p) (e::es) [] pos) (tCB r t):=by
 intro pins s σ H Q I h;refine wpAny_Call_Name_kw (gJ I hg hm hv ?_ hn hdb);exact PyProof.Rows.callWith_builtin1 (thn (ha pos pins s σ H _ I h) fun us s1 ⟨vs,H1,I1,r1,q1⟩=>hc pins s1 σ H1 vs us Q I1 r1 q1) he hpl
theorem oM(hc:cv X (.type T) r)(hg:Gl X x)(hm:X.mg x=none)(hv:bootBuiltins x=some (.type T))(ha:PA X (e::es) t)(hn:x≠"__name__":=by decide) (hdb:(x==("__debug__":Str))=false:=by decide)
  (he:starEach (e::es) X.env=(false,eval e X.env)::starEach es X.env:=by rfl) (hpl:(backTo pos (starEach es X.env)).any (·.1)=false:=by rfl):PE X (.Call (.Name x p) (e::es) [] pos) (tCB r t):=by
 intro pins s σ H Q I h;refine wpAny_Call_Name_kw (gJ I hg hm hv ?_ hn hdb);exact PyProof.Rows.callWith_type1 (thn (ha pos pins s σ H _ I h) fun us s1 ⟨vs,H1,I1,r1,q1⟩=>hc pins s1 σ H1 vs us Q I1 r1 q1) he hpl
end
end L2
end
namespace HT
open PySem PyProof.Rows
section
open PySem.SeqAt
open PySem.AutoSeq1 (wpAny_loadPart')
open PySem.MeetsSeq PySem.MeetsSeq2 PySem.MeetsSeq3
end
section
variable {prog:Program} {w:World} {A:Around} {E:Value->Shared->Prop} {s:Shared}
def sIx(n d:Nat):Option Int->Nat
 |none=>d
 |some v=>if v<0 then (v+(n:Int)).toNat else min v.toNat n
theorem kl(n d:Nat):sIx n d none=d:=rfl
theorem gn(n d k:Nat):sIx n d (some (k:Int))=min k n:=by show (if (k:Int)<0 then ((k:Int)+(n:Int)).toNat else min (k:Int).toNat n)=min k n;rw [zq0 Jn,eQ]
end
end HT
section
open PySem PySem.Spec PyProof.Rows
namespace L2
abbrev TO:=St->Hp->(Option Int->Hp->Prop)->Prop
def PO(X:Cx)(e:Option Expr)(t:TO):Prop:=
 ∀(pins:List (Addr×Obj)) (s:Shared) (σ:St) (H:Hp) (Q:Option Int->Hp->Prop),Inv X pins σ H s->t σ H Q->
  wpAny (model X.prog X.w) X.A (evalPart e X.env) (fun u s'=>∃o H',Inv X pins σ H' s'/\IsPart u o/\Q o H') X.xe s
def nL:TO:=fun _ H Q=>Q none H
def wx(t:TE):TO:=fun σ H Q=>t σ H fun x H1=>∃i,x=.int i/\Q (some i) H1
section
variable {X:Cx} {e:Expr} {te:TE} {lo hi:Option Expr} {tl th:TO} {pos p2:Pos}
def SlR(X:Cx)(r:V->Option Int->Option Int->Hp->VK->Prop):Prop:=
 ∀(pins:List (Addr×Obj)) (s:Shared) (σ:St) (H:Hp) (x:V) (v vl vu:Value) (lo hi:Option Int) (sl:Addr) (Q:VK),Inv X pins σ H s->RelV x v->s.heap.IsSliceOf sl vl vu .none->IsPart vl lo->IsPart vu hi->r x lo hi H Q->
  ∃T id,typeLookup (.type T) "__getitem__"=pure (some (.builtin id))/\s.TypeIs v T/\wpAny (model X.prog X.w) X.A (getItem v (.ref sl)) (EP X pins σ Q) X.xe s
def tSl(r:V->Option Int->Option Int->Hp->VK->Prop)(te:TE)(tl th:TO):TE:=fun σ H Q=>te σ H fun x H1=>tl σ H1 fun l H2=>th σ H2 fun u H3=>r x l u H3 Q
def cL(xs:List V)(lo hi:Option Int):List V:=(xs.drop (HT.sIx xs.length 0 lo)).take (HT.sIx xs.length xs.length hi-HT.sIx xs.length 0 lo)
theorem jN(xs:List V)(lo hi:Option Int):(cL xs lo hi).length<=xs.length:=by unfold cL;rw [gh,jy];omega
end
end L2
namespace L2
def ixN(n:Nat)(i:Int):Option Nat:=if 0<=i then (if i<n then some i.toNat else none) else if -(n:Int)<=i then some (i+n).toNat else none
def atI{α:Type}(xs:List α)(i:Int):Option α:=(ixN xs.length i).bind fun j=>xs[j]?
theorem mR{n:Nat}{i:Int}{j:Nat}(h:ixN n i=some j):seqIndex? i n=some j/\j<n/\-(n:Int)<=i/\i<n:=by
 unfold ixN at h
 by_cases h0:0<=i
 ·rw [zq1 h0] at h
  by_cases h1:i<n
  ·rw [zq1 h1] at h;have e:i.toNat=j:=Option.some.inj h;exact zAG (by rw [seqIndex_of h0 h1,e]) Jn Jn h1
  ·rw [zq0 h1] at h;cases h
 ·rw [zq0 h0] at h
  by_cases h1:-(n:Int)<=i
  ·rw [zq1 h1] at h;have e:(i+n).toNat=j:=Option.some.inj h;exact zAG (by rw [seqIndex_neg Jn h1,e]) Jn h1 Jn
  ·rw [zq0 h1] at h;cases h
theorem iX{α:Type}{xs:List α}{i:Int}{v:α}(h:atI xs i=some v):∃j,seqIndex? i xs.length=some j/\xs[j]?=some v/\j<xs.length/\-(xs.length:Int)<=i/\i<xs.length:=by
 unfold atI at h
 cases e:ixN xs.length i with
 |none=>rw [e] at h;cases h
 |some j=>rw [e] at h;obtain ⟨h1,h2,h3,h4⟩:=mR e;exact zBC j h1 h h2 h3 h4
theorem bt{α:Type}{xs:List α}{j:Nat}{v:α}(h:xs[j]?=some v):atI xs (j:Int)=some v:=by
 have hj:j<xs.length:=(zq17.mp h).1;have e:ixN xs.length (j:Int)=some j:=by unfold ixN;rw [zq1 Jn,zq1 Jn];simp
 unfold atI;rw [e];exact h
theorem eS{α:Type}(xs:List α)(v:α):atI (xs++[v]) (-1)=some v:=by
 have hl:(xs++[v]).length=xs.length+1:=by simp
 have e:ixN (xs++[v]).length (-1)=some xs.length:=by unfold ixN;rw [hl,zq0 Jm,zq1 Jn];congr 1;omega
 unfold atI;rw [e];show (xs++[v])[xs.length]?=some v;simp
def tE(b:Expr):Prop:=∀o i,subscripted b false o i=operate [o,i] (getItem o i)
def IxR(X:Cx)(r:R2):Prop:=
 ∀(value slice:Expr)(pins:List (Addr×Obj)) (s:Shared) (σ:St) (H:Hp) (x y:V) (v u:Value) (Q:VK),Inv X pins σ H s->RelV x v->RelV y u->r x y H Q->
  subscripted slice false v u=operate [v,u] (getItem v u)->wpAny (model X.prog X.w) X.A (subscriptTail value slice v u) (EP X pins σ Q) X.xe s
def MtR(X:Cx)(id:String)(r:V->List V->Hp->VK->Prop):Prop:=
 ∀(pins:List (Addr×Obj)) (s:Shared) (σ:St) (H:Hp) (x:V) (xs:List V) (v:Value) (us:List Value) (Q:VK),Inv X pins σ H s->RelV x v->Vals xs us->r x xs H Q->
  wpAny (model X.prog X.w) X.A (call (.builtin id) (v::us)) (EP X pins σ Q) X.xe s
section
variable {X:Cx} {a b:Expr} {ta tb:TE} {pos:Pos}
def zM(K:W.Frag):R2:=fun x y H Q=>∃p xs i v,x=.ref p/\y=.int i/\SqL K H p xs/\atI xs i=some v/\Q v H
def xH(K:W.Frag):R2:=fun x y H Q=>∃p xs i v,x=.ref p/\y=.int i/\SqT K H p xs/\atI xs i=some v/\Q v H
def zN:R2:=fun x y H Q=>∃z i c,x=.str z/\y=.int i/\z.length<=sizeLine/\atI z.cps.toList i=some c/\Q (.str ⟨#[c]⟩) H
theorem aF:IxR X (zM X.K):=by
 intro value slice pins s σ H x y v u Q I rx ry h hs;obtain ⟨p,xs,i,z,rfl,rfl,hq,he,q⟩:=h
 cases rx
 obtain ⟨t,rfl⟩:=ry;obtain ⟨its,r,pl,hz⟩:=I.list hq;obtain ⟨j,h1,h2,h3,h4,h5⟩:=iX he;obtain ⟨w,ew,rw'⟩:=r.get h2;have hl:=r.length;have hn:=eN;have fin:EP X pins σ Q w s:=zAA z H I rw' q
 by_cases h0:0<=i
 ·have hj:i.toNat=j:=by rw [seqIndex_of h0 h5] at h1;exact Option.some.inj h1
  exact item_listR pl.isList h0 Jn (by rw [hj];simpa using ew) fin hs
 ·have hj:(i+(its.toArray.size:Int)).toNat=j:=by rw [seqIndex_neg Jn h4] at h1;rw [df,<- hl];exact Option.some.inj h1
  exact subscriptTail_builtinR (x:=w) pl.isList.typeIs slot_list_getitem.lookup
   (wpAny_getItem_list_neg (Q:=fun r s'=>r=w/\EP X pins σ Q r s') pl.isList Jn (by rw [df]<;>omega) Jn (by rw [hj];simpa using ew) ⟨rfl,fin⟩) hs
theorem b5:IxR X (xH X.K):=by
 intro value slice pins s σ H x y v u Q I rx ry h hs;obtain ⟨p,xs,i,z,rfl,rfl,hq,he,q⟩:=h
 cases rx
 obtain ⟨t,rfl⟩:=ry;obtain ⟨its,r,pl,hz⟩:=I.tuple hq;obtain ⟨j,h1,h2,h3,h4,h5⟩:=iX he;obtain ⟨w,ew,rw'⟩:=r.get h2;have hl:=r.length;have hn:=eN;have fin:EP X pins σ Q w s:=zAA z H I rw' q
 exact subscriptTail_builtinR (x:=w) pl.typeIs slot_tuple_getitem.lookup
  (getItem_tuple (j:=j) (Q:=fun r s'=>r=w/\EP X pins σ Q r s') pl Jn Jn (by rw [df,<- hl];exact h1) (by simpa using ew) ⟨rfl,fin⟩) hs
theorem gG:IxR X zN:=by
 intro value slice pins s σ H x y v u Q I rx ry h hs;obtain ⟨z,i,c,rfl,rfl,hz,he,q⟩:=h;obtain ⟨t,rfl⟩:=rx;obtain ⟨t',rfl⟩:=ry;obtain ⟨j,h1,h2,h3,h4,h5⟩:=iX he;have hl:z.cps.toList.length=z.length:=by simp [Str.length]
 rw [hl] at h1 h4 h5;have hn:=eN;exact tail_any (typeIs_str s z t) slot_str_getitem.lookup (getItem_str (c:=c) (by have e1:decide (i < -(2 ^ 63:Int))=false:=zq6 Jn;have e2:decide (i ≥ 2 ^ 63)=false:=zq6 Jn;rw [e1,e2,Bool.or_false]) (by rw [h1];simpa using h2) (zAA (.str ⟨#[c]⟩) H (I.tok _) ⟨_,rfl⟩ q)) hs
theorem lu(its:List Value)(n j:Nat)(u:Value):Obj.mapSeq (·.setIfInBounds j u) {cls:=.type "list",data:=.seq its.toArray n}={cls:=.type "list",data:=.seq (its.set j u).toArray n}:=by simp [Obj.mapSeq]
theorem Inv.lst{pins:List (Addr×Obj)}{σ:St}{H:Hp}{s:Shared}{p:Addr}{xs:List V}(I:Inv X pins σ H s)(h:H p=some (.lst xs)):
  ∃(its:List Value)(n:Nat),Vals xs its/\s.heap.get? p=some {cls:=.type "list",data:=.seq its.toArray n}/\xs.length<=sizeLine:=by
 obtain ⟨z,its,n,r,e⟩:=I.hok p _ h;exact zAA its n r e z
theorem Inv.lstUpd{pins:List (Addr×Obj)}{σ:St}{H:Hp}{s:Shared}{p:Addr}{xs ys:List V}{its its':List Value}{n n':Nat}{f:Obj->Obj}(I:Inv X pins σ H s)(h:H p=some (.lst xs))
  (ho:s.heap.get? p=some {cls:=.type "list",data:=.seq its.toArray n}) (hf:f {cls:=.type "list",data:=.seq its.toArray n}={cls:=.type "list",data:=.seq its'.toArray n'}) (r:Vals ys its') (hz:ys.length<=sizeLine) (t:Nat) :
  Inv X pins σ (upd H p (.lst ys)) {s with heap:=s.heap.update p f,toks:=t}:=by
 have e:(s.heap.update p f).get? p=some {cls:=.type "list",data:=.seq its'.toArray n'}:=by rw [v1 f ho (by rw [hf]<;>rfl),hf]
 refine I.write (x:=p) (e:=p) (by rw [h];trivial) (.inl rfl) (fun b u hb q=>(i3 _ _ (Ne.symm hb)).trans q) ⟨_,e⟩ ?_;exact ⟨hz,zAE its' n' r e⟩
def zP:V->V->V->Hp->(Hp->Prop)->Prop:=fun o i v H Q=>∃p xs k j,o=.ref p/\i=.int k/\H p=some (.lst xs)/\ixN xs.length k=some j/\Q (upd H p (.lst (xs.set j v)))
theorem rO:wI X zP:=by
 intro pins s σ H o i v ov iv u Q I ro ri rv h;obtain ⟨p,xs,k,j,rfl,rfl,hp,hj,q⟩:=h
 cases ro
 obtain ⟨t,rfl⟩:=ri;obtain ⟨its,n,r,ho,hz⟩:=I.lst hp;obtain ⟨h1,h2,h3,h4⟩:=mR hj;have hl:=r.length;have hn:=eN;have I':Inv X pins σ (upd H p (.lst (xs.set j v))) {s with heap:=s.heap.update p (Obj.mapSeq (·.setIfInBounds j u))}:=
  I.lstUpd hp ho (lu its n j u) (r.set rv j) (by rw [sV];exact hz) s.toks
 by_cases h0:0<=k
 ·have hk:k.toNat=j:=by rw [seqIndex_of h0 h4] at h1;exact Option.some.inj h1
  exact W.ki_setAt ho h0 Jn (by rw [df,<- hl];exact h4) (by rw [hk];exact zn _ I' q)
 ·have hk:(k+(its.toArray.size:Int)).toNat=j:=by rw [seqIndex_neg Jn h3] at h1;rw [df,<- hl];exact Option.some.inj h1
  exact W.ki_setBack ho Jn (by rw [df,<- hl];exact h3) Jn (by rw [hk];exact zn _ I' q)
theorem jp(lo hi:Option Int)(n:Nat):(sliceBounds lo hi none n).1=((HT.sIx n 0 lo:Nat):Int)/\(sliceBounds lo hi none n).2.1=((HT.sIx n n hi:Nat):Int)/\(sliceBounds lo hi none n).2.2=1:=by
 refine zAB ?_ ?_ rfl
 ·cases lo with
  |none=>simp [sliceBounds,HT.sIx]
  |some i=>
   simp only [sliceBounds,HT.sIx,Option.getD_none,show (1:Int)>0 by decide,if_true]
   by_cases h:i<0
   ·simp only [h,if_true]<;>omega
   ·simp only [h,if_false]<;>omega
 ·cases hi with
  |none=>simp [sliceBounds,HT.sIx]
  |some i=>
   simp only [sliceBounds,HT.sIx,Option.getD_none,show (1:Int)>0 by decide,if_true]
   by_cases h:i<0
   ·simp only [h,if_true]<;>omega
   ·simp only [h,if_false]<;>omega
theorem i8(its:List Value)(lo hi:Option Int):slicePick its.toArray lo hi none=((its.drop (HT.sIx its.length 0 lo)).take (HT.sIx its.length its.length hi-HT.sIx its.length 0 lo)).toArray:=by obtain ⟨h1,h2,h3⟩:=jp lo hi its.toArray.size;unfold slicePick;rw [h1,h2,h3];simp only [sliceRange_one,pick_run,List.size_toArray]<;>rfl
def zQ(K:W.Frag):V->Option Int->Option Int->Hp->VK->Prop:=fun x lo hi H Q=>∃a xs,x=.ref a/\SqL K H a xs/\∀p,H p=none->Q (.ref p) (upd H p (.lst (cL xs lo hi)))
theorem bu:SlR X (zQ X.K):=by
 intro pins s σ H x v vl vu lo hi sl Q I rx hs pl pu h;obtain ⟨a,xs,rfl,hx,q⟩:=h
 cases rx
 obtain ⟨its,r,ht,hz⟩:=I.list hx;have hlen:=r.length;refine zAA ("list") _ slot_list_getitem.lookup ht.isList.typeIs ?_;refine wpAny_getItem_list_slice ht.isList hs pl pu .none Jo ?_ (by rw [List.size_toArray]<;>omega);rw [i8,<- hlen];refine zAA (.ref s.heap.objs.size) _ (I.laid (t':=s.toks) (o:=.lst (cL xs lo hi)) (fun b ob q=>cz _ q) (zq9 _) ?_) rfl (q _ (I.hok.fresh (zq9 _)));exact ⟨gf (jN xs lo hi) hz,zAE _ 0 ((r.drop (HT.sIx xs.length 0 lo)).take (HT.sIx xs.length xs.length hi-HT.sIx xs.length 0 lo)) (er _ rfl)⟩
def cU:V->Bool
 | .non=>true
 | .bl _=>true
 | .int _=>true
 | .str _=>true
 |_=>false
def eqV:V->V->Bool
 | .non,.non=>true
 | .bl a,.bl b=>a==b
 | .bl a,.int b=>(if a then 1 else 0)==b
 | .int a,.bl b=>a==(if b then 1 else 0)
 | .int a,.int b=>a==b
 | .str a,.str b=>a==b
 |_,_=>false
theorem qk{A:Around}{s:Shared}{y x:V}{u v:Value}(ry:RelV y u)(rx:RelV x v)(fy:cU y=true)(fx:cU x=true):SeqAt.EqAt A s u v (eqV y x):=by
 cases y with
 |non=>
  cases ry
  cases x with
  |non=>cases rx;exact SeqAt.EqAt.same _
  |bl b=>cases rx;exact SeqAt.EqAt.none_bool b
  |int b=>obtain ⟨t,rfl⟩:=rx;exact SeqAt.EqAt.none_int b t
  |str b=>obtain ⟨t,rfl⟩:=rx;exact SeqAt.EqAt.none_str b t
  |_=>exact absurd (show false=true from fx) zq8
 |bl a=>
  cases ry
  cases x with
  |non=>cases rx;exact SeqAt.EqAt.bool_none a
  |bl b=>cases rx;exact SeqAt.EqAt.bool_bool a b
  |int b=>obtain ⟨t,rfl⟩:=rx;exact SeqAt.EqAt.bool_int a b t
  |str b=>obtain ⟨t,rfl⟩:=rx;exact SeqAt.EqAt.bool_str a b t
  |_=>exact absurd (show false=true from fx) zq8
 |int a=>
  obtain ⟨t',rfl⟩:=ry
  cases x with
  |non=>cases rx;exact SeqAt.EqAt.int_none a t'
  |bl b=>cases rx;exact SeqAt.EqAt.int_bool a t' b
  |int b=>obtain ⟨t,rfl⟩:=rx;exact SeqAt.EqAt.int_int a t' b t
  |str b=>obtain ⟨t,rfl⟩:=rx;exact SeqAt.EqAt.int_str a t' b t
  |_=>exact absurd (show false=true from fx) zq8
 |str a=>
  obtain ⟨t',rfl⟩:=ry
  cases x with
  |non=>cases rx;exact SeqAt.EqAt.str_none a t'
  |bl b=>cases rx;exact SeqAt.EqAt.str_bool a t' b
  |int b=>obtain ⟨t,rfl⟩:=rx;exact SeqAt.EqAt.str_int a t' b t
  |str b=>obtain ⟨t,rfl⟩:=rx;exact SeqAt.EqAt.str_str a t' b t
  |_=>exact absurd (show false=true from fx) zq8
 |_=>exact absurd (show false=true from fy) zq8
def eqU(x:V)(u:Value):Bool:=match u with
 | .none=>eqV .non x
 | .bool b=>eqV (.bl b) x
 | .int i _=>eqV (.int i) x
 | .str z _=>eqV (.str z) x
 |_=>false
theorem ql{x y:V}{u:Value}(r:RelV y u)(f:cU y=true):eqU x u=eqV y x:=by
 cases y with
 |non=>cases r;rfl
 |bl b=>cases r;rfl
 |int i=>obtain ⟨t,rfl⟩:=r;rfl
 |str z=>obtain ⟨t,rfl⟩:=r;rfl
 |_=>exact absurd (show false=true from f) zq8
theorem eR{x:V}:∀{xs:List V} {us:List Value},Vals xs us->xs.all cU=true->us.any (eqU x)=xs.any fun y=>eqV y x
 |_,_,.nil,_=>rfl
 |y::xs,u::us,.cons r t,f=>by rw [pE,eD] at f;rw [kL,kL,ql r f.1,eR t f.2]
theorem dN{A:Around}{s:Shared}{x:V}{v:Value}(rx:RelV x v)(fx:cU x=true):∀{xs:List V} {us:List Value},Vals xs us->xs.all cU=true->∀u∈us,SeqAt.EqAt A s u v (eqU x u)
 |_,_,.nil,_=>fun u hu=>by cases hu
 |y::xs,u::us,.cons r t,f=>fun u' hu=>by
  rw [pE,eD] at f;rcases zq4.mp hu with rfl | hu
  ·rw [ql r f.1];exact qk r rx f.1 fx
  ·exact dN rx fx t f.2 u' hu
def inV(x:V)(xs:List V):Bool:=xs.any fun y=>eqV y x
def rIn(K:W.Frag)(neg:Bool):R2:=fun x y H Q=>∃p xs,y=.ref p/\(SqL K H p xs\/SqT K H p xs)/\cU x=true/\xs.all cU=true/\Q (.bl (if neg then ! inV x xs else inV x xs)) H
theorem cS:OpR X (compareOp .In) (rIn X.K false):=by
 intro pins s σ H x y v u Q I rx ry h;obtain ⟨p,xs,rfl,hq,fx,fs,q⟩:=h
 cases ry
 rcases hq with hq | hq
 ·obtain ⟨its,r,pl,hz⟩:=I.list hq;refine SeqAt.in_listAt (eqU x) pl.isList (fun w hw=>dN rx fx r fs w (by simpa using hw)) (zAA (.bl _) H I rfl ?_);rw [show its.toArray.any (eqU x)=its.any (eqU x) by simp,eR r fs];exact q
 ·obtain ⟨its,r,pl,hz⟩:=I.tuple hq;refine SeqAt.in_tupleAt (eqU x) pl (fun w hw=>dN rx fx r fs w (by simpa using hw)) (zAA (.bl _) H I rfl ?_);rw [show its.toArray.any (eqU x)=its.any (eqU x) by simp,eR r fs];exact q
theorem bX:OpR X (compareOp .NotIn) (rIn X.K true):=by
 intro pins s σ H x y v u Q I rx ry h;obtain ⟨p,xs,rfl,hq,fx,fs,q⟩:=h
 cases ry
 rcases hq with hq | hq
 ·obtain ⟨its,r,pl,hz⟩:=I.list hq;refine SeqAt.notIn_listAt (eqU x) pl.isList (fun w hw=>dN rx fx r fs w (by simpa using hw)) (zAA (.bl _) H I rfl ?_);rw [show its.toArray.any (eqU x)=its.any (eqU x) by simp,eR r fs];exact q
 ·obtain ⟨its,r,pl,hz⟩:=I.tuple hq;refine SeqAt.notIn_tupleAt (eqU x) pl (fun w hw=>dN rx fx r fs w (by simpa using hw)) (zAA (.bl _) H I rfl ?_);rw [show its.toArray.any (eqU x)=its.any (eqU x) by simp,eR r fs];exact q
theorem aq:cv X (.builtin "len") (fun xs H Q=>∃p ys,xs=[.ref p]/\(SqL X.K H p ys\/SqT X.K H p ys)/\Q (.int ys.length) H):=by
 intro pins s σ H xs us Q I r h;obtain ⟨p,ys,rfl,hq,q⟩:=h;obtain ⟨u,rfl,rx⟩:=dC r
 cases rx
 have hn:=eN;rcases hq with hq | hq
 ·obtain ⟨its,r',pl,hz⟩:=I.list hq;have hlen:=r'.length;exact Calls.call_len_list pl.isList (by simp only [List.size_toArray]<;>omega) (zAA (.int ys.length) H (I.tok _) ⟨s.toks+1,by rw [df,hlen]⟩ q)
 ·obtain ⟨its,r',pl,hz⟩:=I.tuple hq;have hlen:=r'.length;exact len_tuple pl (by simp only [List.size_toArray]<;>omega) (zAA (.int ys.length) H (I.tok _) ⟨s.toks+1,by rw [df,hlen]⟩ q)
theorem eT:cv X (.builtin "len") (fun xs H Q=>∃z,xs=[.str z]/\z.length<=sizeLine/\Q (.int z.length) H):=by intro pins s σ H xs us Q I r h;obtain ⟨z,rfl,hz,q⟩:=h;obtain ⟨u,rfl,t,rfl⟩:=dC r;have hn:=eN;exact len_str Jn (zAA (.int z.length) H (I.tok _) ⟨_,rfl⟩ q)
theorem cK:cv X (.type "list") (fun xs H Q=>∃p ys,xs=[.ref p]/\(SqL X.K H p ys\/SqT X.K H p ys)/\∀l,H l=none->Q (.ref l) (upd H l (.lst ys))):=by
 intro pins s σ H xs us Q I r h;obtain ⟨p,ys,rfl,hq,q⟩:=h;obtain ⟨u,rfl,rx⟩:=dC r
 cases rx
 have fin:∀(its:List Value),Vals ys its->ys.length<=sizeLine->∀(h':Heap)(c':Nat),(∀b o',s.heap.get? b=some o'->h'.get? b=some o')->
   h'.get? s.heap.objs.size=some {cls:=.type "list",dict:=none,data:=.seq its.toArray c',slots:=#[]}->EP X pins σ Q (.ref s.heap.objs.size) {s with heap:=h'}:=fun its r' hz h' c' kp e=>
  (zAA (.ref s.heap.objs.size) _ (I.laid (t':=s.toks) kp (zq9 _) (show ObjOk X.prog X.w _ h' _ (.lst ys) from ⟨hz,zAE its c' r' e⟩)) rfl (q _ (I.hok.fresh (zq9 _))))
 rcases hq with hq | hq
 ·obtain ⟨its,r',pl,hz⟩:=I.list hq;have hlen:=r'.length;obtain ⟨o,ho,hc,n,hd⟩:=pl.isList;exact call_list_seq p (.inl rfl) ho hc hd (fun h' c' kp e=>fin its r' hz h' c' kp e) (by simp only [List.size_toArray]<;>omega)
 ·obtain ⟨its,r',pl,hz⟩:=I.tuple hq;have hlen:=r'.length;obtain ⟨o,ho,hc,n,hd⟩:=pl;exact call_list_seq p (.inr rfl) ho hc hd (fun h' c' kp e=>fin its r' hz h' c' kp e) (by simp only [List.size_toArray]<;>omega)
def tyV(K:W.Frag)(T:String)(x:V)(H:Hp):Prop:=match x with
 | .str _=>T="str"
 | .int _=>T="int"
 | .ref p=>(T="list"/\∃xs,SqL K H p xs)\/(T="tuple"/\∃o,K.lookup p=some o/\o.cls=.type "tuple"/\o.dict=none)\/
   (T="dict"/\((∃kvs,H p=some (.dK kvs))\/∃kvs,H p=some (.dT kvs)))\/(T="set"/\∃S n,H p=some (.set S n))
 |_=>False
theorem sq{pins:List (Addr×Obj)}{σ:St}{H:Hp}{s:Shared}{T:String}{x:V}{v:Value}(I:Inv X pins σ H s)(r:RelV x v)(ty:tyV X.K T x H):
  s.TypeIs v T/\∀a,v=.ref a->∃ob,s.heap.get? a=some ob/\ob.dict=none:=by
 cases x with
 |str z=>
  obtain ⟨t,rfl⟩:=r
  cases (show T="str" from ty)
  exact ⟨typeIs_str s z t,fun _ e=>nomatch e⟩
 |int i=>
  obtain ⟨t,rfl⟩:=r
  cases (show T="int" from ty)
  exact ⟨typeIs_int s i t,fun _ e=>nomatch e⟩
 |ref p=>
  cases r
  rcases ty with ⟨rfl,xs,hq⟩ | ⟨rfl,o,hk,hc,hd⟩ | ⟨rfl,hk⟩ | ⟨rfl,S,n,hk⟩
  ·obtain ⟨its,_,pl,_⟩:=I.list hq;refine ⟨pl.isList.typeIs,fun a e=>?_⟩
   cases e
   obtain ⟨o,n,e,c,hd,_⟩:=pl;exact zn o e hd
  ·refine ⟨zn o (I.kIn p o hk) hc,fun a e=>?_⟩
   cases e
   exact zn o (I.kIn _ o hk) hd
  ·have z:∃o,s.heap.get? p=some o/\o.ExactDict:=by
    rcases hk with ⟨kvs,hk⟩ | ⟨kvs,hk⟩
    ·obtain ⟨_,_,_,_,o,_,_,e,ex,_⟩:=I.hok p _ hk;exact zn o e ex
    ·obtain ⟨_,_,_,_,o,_,_,e,ex,_⟩:=I.hok p _ hk;exact zn o e ex
   obtain ⟨o,e,ex⟩:=z;refine ⟨zn o e ex.1,fun a e2=>?_⟩
   cases e2
   exact zn o e ex.2.1
  ·obtain ⟨o,_,_,_,e,ex,_⟩:=I.hok p _ hk;refine ⟨zn o e ex.1,fun a e2=>?_⟩
   cases e2
   exact zn o e ex.2.1
 |_=>exact False.elim ty
def Ax(K:W.Frag)(T:String)(r:V->List V->Hp->VK->Prop)(to:TE):TE:=fun σ H Q=>to σ H fun x H1=>tyV K T x H1/\r x [] H1 Q
def tBM(K:W.Frag)(T:String)(r:V->List V->Hp->VK->Prop)(to:TE)(t:TA):TE:=fun σ H Q=>to σ H fun x H1=>tyV K T x H1/\t σ H1 fun xs H2=>r x xs H2 Q
variable {o e:Expr} {es:List Expr} {to:TE} {t:TA} {name:Str} {apos cpos:Pos} {T id:String} {r:V->List V->Hp->VK->Prop}
theorem zH(pa:PlainAttrs T)(slot:Slot T name id)(hty:typeOf (.builtin id)=pure (.type "method_descriptor")) (hm:MtR X id r) (ho:PE X o to) (ha:PA X (e::es) t)
  (hbase:attributeBase o name X.env (eval o X.env)=eval o X.env:=by rfl)
  (hfew:((backTo cpos (starEach (e::es) X.env)).all (fun x=>! x.1)&&(backToKw cpos (keywordEach [] X.env)).all (fun x=>x.1.isSome)
   && decide ((e::es).length+([]:List Keyword).length+(if ([]:List Keyword).isEmpty then 0 else 1)<30))=true:=by rfl)
  (hline:(apos.endLine==cpos.line)=true:=by rfl) (hs:starEach (e::es) X.env=(false,eval e X.env)::starEach es X.env:=by rfl) (hplain:(backTo cpos (starEach es X.env)).any (·.1)=false:=by rfl) :
  PE X (.Call (.Attribute o name apos) (e::es) [] cpos) (tBM X.K T r to t):=by
 intro pins s σ H Q I h;refine wpAny_Call_method_late hbase hfew hline rfl (thn (ho pins s σ H _ I h) fun v s1 hhx=>?_);obtain ⟨x,H1,I1,r1,ty,q1⟩:=hhx;obtain ⟨h1,h2⟩:=sq I1 r1 ty;refine zBD T id pa slot hty h1 h2 ?_;have hA:=ha cpos pins s1 σ H1 _ I1 q1;rw [hs] at hA ⊢;refine Calls.callWith_builtin (by show (false || (backTo cpos (starEach es X.env)).any (·.1))=false;rw [hplain]<;>rfl) (Calls.evalArgs_plain ?_);exact thn hA fun us s2 ⟨vs,H2,I2,r2,q2⟩=>hm pins s2 σ H2 x vs v us Q I2 r1 r2 q2
/- xs.append(e),list.index on a module's tuple .. are MtR facts of 06m -/
end
end L2
namespace L2
def MtM(X:Cx)(id:String)(r:V->List V->Hp->VK->Prop):Prop:=
 ∀(pins:List (Addr×Obj)) (s:Shared) (σ:St) (H:Hp) (x:V) (xs:List V) (v:Value) (us:List Value) (Q:VK),Inv X pins σ H s->RelV x v->Vals xs us->r x xs H Q->
  wpAny (model X.prog X.w) X.A (call (.builtin id) (v::us)) (EP X pins σ Q) X.xe s
theorem Vals.one:∀{x:V} {us:List Value},Vals [x] us->∃u,us=[u]/\RelV x u
 |_,_,.cons r .nil=>zn _ rfl r
theorem Vals.zero:∀{us:List Value},Vals [] us->us=[]
 |_,.nil=>rfl
theorem Vals.dropLast{xs:List V}{us:List Value}(h:Vals xs us):Vals xs.dropLast us.dropLast:=by
 induction h with
 |nil=>exact .nil
 |cons r t ih=>
  cases t with
  |nil=>exact .nil
  |cons q t'=>exact .cons r ih
theorem kT{α:Type}(l:List α):l.eraseIdx (l.length-1)=l.dropLast:=by
 induction l with
 |nil=>rfl
 |cons a r ih=>
  cases r with
  |nil=>rfl
  |cons b r=>
   have e:(a::b::r).length-1=((b::r).length-1)+1:=by have h1:(a::b::r).length=r.length+2:=rfl;have h2:(b::r).length=r.length+1:=rfl;omega
   rw [e,List.eraseIdx_cons_succ,ih]
   all_goals rfl
section
variable {X:Cx} {pins:List (Addr×Obj)} {σ:St} {H:Hp} {s:Shared} {l b:Addr} {xs ys zs:List V}
theorem Inv.lset{its its':List Value}{n:Nat}{f:Array Value->Array Value}{t':Nat}(I:Inv X pins σ H s)(hH:H l=some (.lst xs))
  (e:s.heap.get? l=some {cls:=.type "list",data:=.seq its.toArray n}) (hf:f its.toArray=its'.toArray) (hv:Vals ys its') (hz:ys.length<=sizeLine) :
  Inv X pins σ (upd H l (.lst ys)) {s with heap:=s.heap.update l (Obj.mapSeq f),toks:=t'}:=by
 have q:=PySem.IsL.update e f;rw [hf] at q;refine I.write (x:=l) (e:=l) (by rw [hH];exact trivial) (.inl rfl) (fun b' u hb hu=>(i3 s.heap (Obj.mapSeq f) (Ne.symm hb)).trans hu) ⟨_,q⟩ ?_;exact ⟨hz,zAE its' _ hv q⟩
theorem Inv.lnew{its:List Value}{t':Nat}(I:Inv X pins σ H s)(hv:Vals ys its)(hz:ys.length<=sizeLine):
  Inv X pins σ (upd H s.heap.objs.size (.lst ys)) {s with heap:=s.heap.push {cls:=.type "list",data:=.seq its.toArray},toks:=t'}:=
 I.laid (fun _ _ q=>cz _ q) (zq9 _) ⟨hz,zAE its 0 hv (er _ rfl)⟩
theorem Inv.fresh(I:Inv X pins σ H s):H s.heap.objs.size=none:=I.hok.fresh (zq9 _)
theorem Inv.lstM(I:Inv X pins σ H s)(hH:H l=some (.lst xs)):xs.length<=sizeLine/\∃(its:List Value)(n:Nat),Vals xs its/\xs.length=its.length/\s.heap.get? l=some {cls:=.type "list",data:=.seq its.toArray n}:=by obtain ⟨z,its,n,r,e⟩:=I.hok l _ hH;exact ⟨z,zAA its n r r.length e⟩
theorem qH{n:Nat}(h:n<=sizeLine):Builtin.List.listTooLong n=false:=by unfold Builtin.List.listTooLong;exact zq6 Jn
end
section
variable {X:Cx}
def nk:V->List V->Hp->VK->Prop:=fun x vs H Q=>∃l xs y,x=.ref l/\vs=[y]/\H l=some (.lst xs)/\xs.length<sizeLine/\Q .non (upd H l (.lst (xs++[y])))
theorem bo:MtM X "list.append" nk:=by
 intro pins s σ H x vs v us Q I rx rv h;obtain ⟨l,xs,y,rfl,rfl,hH,hz,q⟩:=h
 cases rx
 obtain ⟨u,rfl,ru⟩:=rv.one;obtain ⟨z,its,n,r,hl,e⟩:=I.lstM hH;refine call_meets F.slot_list_append (zn _ e rfl) F.entry_list_append (F.args_list_append_2 _ _) (PySem.list_append l its.toArray n u (by rw [df];omega)) ⟨e,?_⟩;refine zAA .non _ (I.lset (its':=its++[u]) hH e Jo (r.append (.cons ru .nil)) ?_) rfl q;rw [cf,gi];omega
def uy:V->List V->Hp->VK->Prop:=fun x vs H Q=>∃l b xs zs,x=.ref l/\vs=[.ref b]/\H l=some (.lst xs)/\H b=some (.lst zs)/\xs.length+zs.length<=sizeLine/\Q .non (upd H l (.lst (xs++zs)))
theorem zd:MtM X "list.extend" uy:=by
 intro pins s σ H x vs v us Q I rx rv h;obtain ⟨l,b,xs,zs,rfl,rfl,hH,hB,hz,q⟩:=h
 cases rx
 obtain ⟨u,rfl,ru⟩:=rv.one
 cases ru
 obtain ⟨z,its,n,r,hl,e⟩:=I.lstM hH;obtain ⟨z2,its2,n2,r2,hl2,e2⟩:=I.lstM hB;have hsz:its.toArray.size+its2.toArray.size<=sizeLine:=by rw [df,df];omega
 have hlong:¬(! its.toArray.isEmpty&&Builtin.List.listTooLong (its.toArray.size+its2.toArray.size))=true:=by rw [qH hsz,pF];exact zq8
 refine call_meets F.slot_list_extend (zn _ e rfl) F.entry_list_extend (F.args_list_extend_2 _ _)
  (AutoSeq1.list_extend_list_list_0 l its.toArray n b its2.toArray n2 hlong (by rw [df];omega) Jn) (zAB e e2 ?_)
 refine zAA .non _ (I.lset (its':=its++its2) hH e Jo (r.append r2) ?_) rfl q;rw [cf];omega
def zO:V->List V->Hp->VK->Prop:=fun x vs H Q=>∃l xs y,x=.ref l/\vs=[]/\H l=some (.lst xs)/\xs[xs.length-1]?=some y/\Q y (upd H l (.lst xs.dropLast))
theorem lw:MtM X "list.pop" zO:=by
 intro pins s σ H x vs v us Q I rx rv h;obtain ⟨l,xs,y,rfl,rfl,hH,hy,q⟩:=h
 cases rx
 have hus:=rv.zero;subst hus;obtain ⟨z,its,n,r,hl,e⟩:=I.lstM hH;obtain ⟨u,hu,ru⟩:=r.get hy;have hy':its.toArray[its.toArray.size-1]?=some u:=by show its.toArray[its.length-1]?=some u;rw [<- v2,<- hl];exact hu
 refine call_meets F.slot_list_pop (zn _ e rfl) F.entry_list_pop (F.args_list_pop_1 _) (MeetsSeq.list_pop_last l its.toArray n u hy' (by rw [df];omega)) ⟨e,?_⟩;refine zAA y _ (I.lset (its':=its.dropLast) hH e ?_ r.dropLast ?_) ru q
 ·show its.toArray.eraseIdxIfInBounds (its.toArray.size-1)=its.dropLast.toArray;rw [df,List.eraseIdxIfInBounds_toArray,kT]
 ·rw [List.length_dropLast];omega
def xF:R2:=fun x y H Q=>∃l b xs zs,x=.ref l/\y=.ref b/\H l=some (.lst xs)/\H b=some (.lst zs)/\xs.length+zs.length<=sizeLine/\∀p,H p=none->Q (.ref p) (upd H p (.lst (xs++zs)))
theorem aT:OpR X (binaryOp .Add) xF:=by
 intro pins s σ H x y v u Q I rx ry h;obtain ⟨l,b,xs,zs,rfl,rfl,hH,hB,hz,q⟩:=h
 cases rx
 cases ry
 obtain ⟨z,its,n,r,hl,e⟩:=I.lstM hH;obtain ⟨z2,its2,n2,r2,hl2,e2⟩:=I.lstM hB;refine PySem.P.add_list e e2 ?_ (by rw [df,df];omega);have ea:its.toArray++its2.toArray=(its++its2).toArray:=by simp
 rw [ea];exact zAA (.ref _) _ (I.lnew (t':=s.toks) (r.append r2) (by rw [cf];omega)) rfl (q _ I.fresh)
end
section
variable {prog:Program} {w:World} {A:Around} {E:Value->Shared->Prop} {s:Shared}
end
section
variable {X:Cx}
end
end L2
namespace L2
section
variable {κ:Type} [DecidableEq κ]
end
section
variable {P:Program} {w:World} {H:Hp} {h:Heap} {a:Addr}
end
section
variable {X:Cx} {pins:List (Addr×Obj)} {σ:St} {H:Hp} {s:Shared} {a:Addr} {y v:V} {u r:Value} {o:Option V} {A:Around} {E:Value->Shared->Prop}
end
section
variable {X:Cx} {pins:List (Addr×Obj)} {σ:St} {H:Hp} {s:Shared} {a:Addr} {kvs:List (Key×V)} {k:Key} {u:Value} {A:Around} {E:Value->Shared->Prop}
end
section
variable {X:Cx} {o i e value:Expr} {pos pos' tpos:Pos} {td ty tv:TE}
end
section
variable {X:Cx} {pos:Pos}
end
section
variable {X:Cx} {pins:List (Addr×Obj)} {σ:St} {H:Hp} {s:Shared} {a:Addr} {y d:V} {u r:Value} {o:Option V} {A:Around} {E:Value->Shared->Prop}
end
section
variable {X:Cx} {o e f:Expr} {apos cpos:Pos} {td ty tx:TE}
end
section
variable {X:Cx} {pins:List (Addr×Obj)} {σ:St} {H:Hp} {s:Shared} {a:Addr} {kvs:List (Key×V)} {A:Around} {E:Value->Shared->Prop}
end
section
variable {X:Cx} {pins:List (Addr×Obj)} {σ:St} {H:Hp} {s:Shared} {a:Addr} {y:V} {u:Value} {A:Around} {E:Value->Shared->Prop}
end
end L2
end
namespace Att
open PySem PySem.W PySem.Calls PyProof.Rows
theorem gb{P:Params}{h:Heap}:∀(ns:List Int)(vs:List Value),WellAll P h vs (ns.map WData.int)->IntsAre vs ns:=by
 intro ns
 induction ns with
 |nil=>
  intro vs w;rw [List.map_nil] at w
  cases w
  exact .nil
 |cons n ns ih=>
  intro vs w;rw [dX] at w
  cases w with
  |cons a b=>
   cases a
   exact .cons _ _ (ih _ b)
theorem oV{l:OpenLaw}{n:Nat}(hn:l.most=some n){P:Params}{h:Heap}{args:List WData}{vals:List Value}
  (hpre:l.row.toRowW.claim.pre args=true) (hwl:WellAll P h vals args) :
  ∃a vs ns,vals=[Value.ref a]/\args=[WData.list (ns.map WData.int)]/\h.get? a=some {cls:=.type "list",data:=.seq vs.toArray}/\IntsAre vs ns/\ns.length<=n:=by
 have hsh:WShape.hasAll [] args [.list .int]=true:=(pre_splitW hpre).1;have hc:l.pre.holds [] {args:=args}=true:=(pre_splitW hpre).2;obtain ⟨d,r,rfl,h1,h2⟩:=hasAllW_cons hsh;obtain rfl:=hasAllW_nil h2;obtain ⟨xs,rfl,h3⟩:=hasW_list h1;obtain ⟨ns,rfl⟩:=items_int h3;have hlen:ns.length<=n:=by
  unfold OpenLaw.pre at hc;have h4:(WTm.not (.lt (.lit (.int (n:Int))) (.len (.arg 0)))).holds [] {args:=[.list (ns.map .int)]}=true:=by have h4:=(holds_andW hc).1;rw [hn] at h4;exact h4
  have h5:=condW_of h4 (w_not (w_lt w_lit (w_len_list (w_arg rfl))));rw [zq2] at h5;refine Nat.le_of_not_lt fun q=>?_;have q':(n:Int)<((ns.length:Nat):Int):=by omega
  first
   | (rw [zq5 q'] at h5;exact absurd h5 Jm)
   | (simp at h5;omega)
 cases hwl with
 |cons w1 w2=>
  cases w2
  cases w1 with
  |list ho hall=>exact zAQ _ _ ns rfl rfl ho (gb ns _ hall) hlen
theorem oN(l:OpenLaw)(args:List WData):l.row.toRowW.claim.post args (.bool true) args=true:=
 postW_of (r:=l.row.toRowW) (X:=(true==true))
  (show WShape.has [] (.bool true) .bool=true by first | rfl | decide | simp [WShape.has,WShape.arms,WShape.armsAll])
  (show (WTm.eq .res (.lit (.bool true))).value [] {args:=args,res:=some (.bool true),after:=args}=some (.bool (true==true)) from w_eq_bool (w_res rfl) w_lit) rfl
section
variable {prog:Program} {w:World} {A:Around} {E:Value->Shared->Prop} {s:Shared} {K:Frag}
end
end Att
namespace L2
open PySem PySem.Spec PyProof.Rows
theorem iP:∀{vs:List Value} {ns:List Int},IntsAre vs ns->Vals (ns.map V.int) vs
 |_,_,.nil=>.nil
 |_,_,.cons n t h=>.cons ⟨t,rfl⟩ (iP h)
def wH(H:Hp):Prop:=∀b,H b=none\/∃o xs,H b=some (.frz o (.lst xs))
theorem qA{P:Program}{w:World}{K:W.Frag}{mg mb:Str->Option Value}{CX:CXT}{k:Nat}{fa a:Addr}{fd:FuncData}{x:Str}{sp:Sp}{s₁:Shared}{vs:List Value}{ns:List Int}
  (KX:K.In s₁.heap) (hns:s₁.heap.Ns mainGlobals mg) (hb:s₁.heap.Ns builtinsNs mb) (hbb:∀x:Str,x≠"__name__"->mb x=bootBuiltins x) (hlim:s₁.heap.NoLimit) (hg:s₁.gens=#[])
  (ha:s₁.heap.get? a=some {cls:=.type "list",data:=.seq vs.toArray}) (hi:IntsAre vs ns) (hl:ns.length<=sizeLine) (hr:Room k callerA)
  (F:∀base:Heap,K.In base->base.Ns mainGlobals mg->FnOk P w K mg base CX k fa fd [x] sp) (hbind:∀(s:Shared)(u:Value),BindsTo s fd ⟨[u],[]⟩ [(x,u)])
  (hsp:∀H:Hp,wH H->SqL K H a (ns.map V.int)->sp [.ref a] H (fun v _=>v=.bl true) fun _ _ _=>False)
  (hCX:∀H e s',CX [] H s₁ (fun _ _ _=>False) e s'->False) :
  codeAny (model P w) callerA (.call (.ref fa) ⟨[.ref a],[]⟩) (fun r s'=>r=.ok (.ret (.bool true))/\OldK s₁.heap s'.heap/\s'.os=s₁.os/\AllBare s'.gens) s₁:=by
 have rv:=iP hi;have lenV:=hi.length;have core:∀H:Hp,wH H->SqL K H a (ns.map V.int)->HOk P w H s₁.heap->(∀b,H b≠none->b=a)->(H a≠none->K.lookup a=none)->
   codeAny (model P w) callerA (.call (.ref fa) ⟨[.ref a],[]⟩) (fun r s'=>r=.ok (.ret (.bool true))/\OldK s₁.heap s'.heap/\s'.os=s₁.os/\AllBare s'.gens) s₁:=by
  intro H hO hS hok hA hK;have base_of:∀{b:Addr} {o:Obj},s₁.heap.get? b=some o->H b=none->(j7 s₁.heap H).get? b=some o:=fun e n=>qy e n;have noA:∀{b:Addr} {o:Obj} {es:Array DictEntry} {ep:Nat},s₁.heap.get? b=some o->o.data=.dict es ep->H b=none:=fun {b o es ep} e d=>by
   cases q:H b with
   |none=>rfl
   |some u=>
    have e':b=a:=hA b (by rw [q];simp);subst e';rw [ha] at e;cases e;have d':Data.seq vs.toArray _=Data.dict es ep:=d
    cases d'
  have nsK:∀{b:Addr} {m:Str->Option Value},s₁.heap.Ns b m->(j7 s₁.heap H).Ns b m:=fun {b m} ⟨o,es,ep,e,d,r⟩=>zAU o es ep (base_of e (noA e d)) d r
  have hKb:K.In (j7 s₁.heap H):=fun b o e=>base_of (KX b o e) (by
   cases q:H b with
   |none=>rfl
   |some u=>have e':b=a:=hA b (by rw [q];simp);subst e';rw [hK (by rw [q];simp)] at e;cases e)
  have hM:Mod K mg (j7 s₁.heap H):=⟨hKb,nsK hns,zn mb (nsK hb) hbb,let ⟨mc,h1,h2⟩:=hlim;(zn mc (nsK h1) h2)⟩
  have e0:Env0 P w K mg (j7 s₁.heap H) callerA [] s₁ H:=⟨rfl,hM,fun b o e=>ug e,z9 (oy _ _),trivial,fun b hb=>absurd (show b∈([]:List Addr) from hb) Jo,hok,.of_eq hg⟩
  refine codeAny_mono ((F _ hKb (nsK hns)).run callerA [] s₁ H ⟨[.ref a],[]⟩ [.ref a] [.ref a] _ _ hr e0 (hbind s₁ (.ref a)) (.cons rfl .nil) (hsp H hO hS)) fun r s' h=>?_
  cases r with
  |error e=>exact (hCX H e s' h).elim
  |ok fl=>
   cases fl with
   |next=>exact False.elim h
   |brk=>exact False.elim h
   |cont=>exact False.elim h
   |ret u=>
    obtain ⟨v,H',os,bare,un,hok',r',q⟩:=h;have q':v=.bl true:=q;subst q';obtain rfl:u=Value.bool true:=r';refine zAG rfl (OldK.of_keep fun b o e=>?_) os bare
    cases q:H b with
    |none=>exact un.keep b o e q (by intro z;exact absurd (show b∈([]:List Addr) from z) Jo) Jo
    |some u=>
     rcases hO b with z | ⟨ob,xs,z⟩
     ·rw [q] at z;cases z
     ·have z2:=un.frzs b ob _ z;obtain ⟨e1,_⟩:=hok b _ z;obtain ⟨e2,_⟩:=hok' b _ z2;rw [e] at e1;cases e1;exact e2
 cases hk:K.lookup a with
 |some o=>
  have e:=KX a o hk;rw [ha] at e
  cases e
  refine core (fun _=>none) (fun _=>.inl rfl) (.inr (zAW _ vs.toArray _ hk rfl rfl rfl (by rw [df,lenV];exact hl) (by simpa using rv))) (fun b u z=>by have z':(none:Option HO)=some u:=z;cases z') (fun b z=>absurd rfl z) fun z=>absurd rfl z
 |none=>
  refine core (fun b=>if b=a then some (.frz {cls:=.type "list",data:=.seq vs.toArray} (.lst (ns.map V.int))) else none) (fun b=>?_) (.inl (.inr ⟨{cls:=.type "list",data:=.seq vs.toArray},zq1 rfl⟩)) (fun b u z=>?_) (fun b z=>?_) fun _=>hk
  ·by_cases hb:b=a
   ·exact .inr (zAJ _ _ (zq1 hb))
   ·exact .inl (zq0 hb)
  ·by_cases hb:b=a
   ·have z':=(zq1 hb).symm.trans z
    cases z'
    subst hb;exact zAB ha (by rw [zq2];exact hl) (zAE vs _ rv ha)
   ·have z':=(zq0 hb).symm.trans z
    cases z'
  ·by_cases hb:b=a
   ·exact hb
   ·exact absurd (zq0 hb) z
end L2
namespace L2
open PySem PySem.Spec PyProof.Rows
end L2
/- THE LAST THEOREM (shape;LID,My.* are yours):
   My.Adr: a structure of the addresses that your layer names (classes,functions);My.Txt K t: a structure (Prop) of the equations over K;
   My.txt_mk:{K} {implicit addresses ..} (e1:nsIn K mainGlobals "law"=some (some (.ref f))) (e2:K.lookup f=some ⟨oc,od,.func (fnOf "law" "law" params body scope dV kV doc pm an cdv ct),sl⟩) (e3:codeIn K cdv "law"=true) ..:∃t,My.Txt K t
set_option maxRecDepth 100000 in
set_option maxHeartbeats 0 in
theorem PySem.Challenge.cw_LID_holds:PySem.Challenge.rw_LID.Holds:=by
 w_on;o_law;k_head;(case hw=>w_witness2)
 k_fill
 refine L2.walk_of (l:=PySem.Challenge.rw_LID) (n:=63) (k:=40) (x:="script") (CX:=fun w=>..) (sp:=fun _=>My.sp_law) rfl Jm rfl ⟨rfl,Jm,Jm⟩ (fun w h Y=>W.kIn_of Y) ?F ?S ?C
 case F=>
  intro w mg fa h KX G hmg;have T:∃t,My.Txt (L2.KOf KX) t:=by
   dsimp only [L2.KOf]                          -- K must stand as «<heap const> w.params» for k_is;refine' My.txt_mk ?e1 ?e2 ?e3 ..
   (case e1=>W.k_is)                    -- in the order: a name->its address->its object->its parts
   (case e2=>W.k_is)
   ..
  obtain ⟨t,T⟩:=T;have e0:=hmg.symm.trans (W.mg_of KX G T.law)
  cases e0                                       -- fa is the law's own address
  exact ⟨_,fun s u=>.of_eq rfl,fun base kb nb=>My.law_fn T kb nb⟩     -- if «.of_eq rfl» comes too early: refine' ⟨_,?b,fun base kb nb=>My.law_fn T kb nb⟩;exact fun s u=>.of_eq rfl
 case S=>exact fun w H a ns hl hO hS=>..
 case C=>exact ..
(the tactic k_is has no namespace: write k_is) -/
section
open PySem PySem.Spec PyProof.Rows
namespace L2
variable {H:Hp} {f:Addr} {qual x:Str}
def bW(s:Stmt)(j:Nat):Stmt:=match s with
 | .ClassDef _ _ _ body _ _ _ _ _ _ _=>body.getD j (.Pass ⟨0,0,0,0⟩)
 |_=>.Pass ⟨0,0,0,0⟩
def cM(s:Stmt):Arguments:=match s with
 | .FunctionDef _ a _ _ _ _ _ _ _ _=>a
 |_=>{posonlyargs:=[],args:=[],vararg:=none,kwonlyargs:=[],kw_defaults:=[],kwarg:=none,defaults:=[]}
def cj(s:Stmt):List Stmt:=match s with
 | .FunctionDef _ _ b _ _ _ _ _ _ _=>b
 |_=>[]
def az(s:Stmt):Scope:=match s with
 | .FunctionDef _ _ _ _ _ _ sc _ _ _=>sc
 |_=>{kind:=.function,names:=[],isGenerator:=false,isCoroutine:=false}
abbrev CX0:CXT:=fun _ _ _ _ _ _=>False
abbrev E0:XK:=fun _ _ _=>False
theorem ng{X:Cx}:cH CX0 X E0:=fun _ _ _ _ _ _ _ h=>h.elim
structure Fun(K:W.Frag)(x qual:Str)(st:Stmt)(f:Addr)(fd:FuncData):Prop where
 ex:∃(oc:Value)(od:Option Addr)(kV doc pm:Value)(an:Option Addr)(cdv ct:Value)(osl:Array (Option Value)),
  fd=W.fnOf x qual (cM st) (cj st) (az st) .none kV doc pm an cdv ct/\K.lookup f=some ⟨oc,od,.func fd,osl⟩/\W.codeIn K cdv qual=true
 kp:W.keepIn K (.ref f)=true
section
variable {P:Program} {w:World} {K:W.Frag} {mg:Str->Option Value} {base:Heap}
theorem Fun.ok{st:Stmt}{fd:FuncData}{N ps:List Str}{k:Nat}{sp:Sp}(F:Fun K x qual st f fd)(S:aG N ps (az st))(len:∀vs H Q E,sp vs H Q E->vs.length=ps.length)
 (hbody:∀(cdv:Value)(A:Around)(outer:List Env)(s:Shared)(H:Hp)(vs:List V)(Q:VK)(E:XK),Room k (A.deeper (envOfC qual (az st) s.heap.objs.size f cdv))->sp vs H Q E->
 ∃t,PSs (ek CX0 P w K mg base N qual (az st) f cdv A outer s H E).nox (cj st) t/\t {nx:=fun _ H'=>Q .non H',rt:=Q} (start N vs) H):FnOk P w K mg base CX0 (k+1) f fd ps sp:=by
 obtain ⟨oc,od,kV,doc,pm,an,cdv,ct,osl,rfl,lk,hcd⟩:=F.ex;refine vg lk hcd S len fun A outer s H vs Q E hr hsp=>?_;obtain ⟨t,h,q⟩:=hbody cdv A outer s H vs Q E hr hsp;exact zn t h.nox q
theorem Fun.binds{st:Stmt}{fd:FuncData}{ps:List Str}(F:Fun K x qual st f fd)
 (h:∀(kV doc pm:Value)(an:Option Addr)(cdv ct:Value)(us:List Value),us.length=ps.length->bindArgs (W.fnOf x qual (cM st) (cj st) (az st) .none kV doc pm an cdv ct) ⟨us,[]⟩=pure (ps.zip us)):Binds K fd ps []:=by
 obtain ⟨oc,od,kV,doc,pm,an,cdv,ct,osl,rfl,lk,hcd⟩:=F.ex;exact .all (h kV doc pm an cdv ct)
theorem j6{st:Stmt}{oc:Value}{od an:Option Addr}{osl:Array (Option Value)}{kV doc pm cdv ct:Value}(l:K.lookup f=some ⟨oc,od,.func (W.fnOf x qual (cM st) (cj st) (az st) .none kV doc pm an cdv ct),osl⟩)
 (c:W.codeIn K cdv qual=true) (k:W.keepIn K (.ref f)=true):Fun K x qual st f (W.fnOf x qual (cM st) (cj st) (az st) .none kV doc pm an cdv ct):=⟨zAX oc od kV doc pm an cdv ct osl (zAB rfl l c),k⟩
end
theorem zr{A:Around}{k:Nat}(hr:Room k A):A.units+1<cLine:=Nat.lt_of_le_of_lt (Nat.add_le_add_left (by decide:1<=64) _) hr.units
section
variable {X:Cx}
end
def Same(H H':Hp):Prop:=∀b o,H b=some o->H' b=some o
theorem Same.refl(H:Hp):Same H H:=fun _ _ h=>h
theorem Same.trans{H1 H2:Hp}(a:Same H H1)(b:Same H1 H2):Same H H2:=fun c o h=>b c o (a c o h)
theorem Same.free{H':Hp}(e:Same H H'){l:Addr}(h:H' l=Option.none):H l=Option.none:=by
 cases q:H l with
 |none=>rfl
 |some o=>
  rw [e l o q] at h
  cases h
theorem Same.seq{K:W.Frag}{H':Hp}{a:Addr}{xs:List V}(e:Same H H')(h:SqL K H a xs):SqL K H' a xs:=by
 rcases h with (h | ⟨o,h⟩) | h
 ·exact .inl (.inl (e _ _ h))
 ·exact .inl (.inr ⟨o,e _ _ h⟩)
 ·exact .inr h
end L2
namespace L2
section
variable {X:Cx}
end
section
variable {κ:Type} [DecidableEq κ]
end
end L2
namespace L2
section
variable {X:Cx}
def CDivB(i j:Int):Prop:=0<j/\j.natAbs.log2<9000
theorem qW:OpR X (binaryOp .FloorDiv) (rI CDivB fun i j=>.int (i / j)):=opI fun i j _ _ _ _ _ hc q=>by have h1:(0:Int)<j:=hc.1;exact floordiv_int Jn (by rw [Int.fdiv_eq_ediv_of_nonneg i Jn];exact q) (.inl (PyProof.noPylong_of_log2 hc.2))
theorem uq:OpR X (binaryOp .Mult) (rI IntMulOk fun i j=>.int (i * j)):=opI fun _ _ _ _ _ _ _ hc q=>mul_int q hc
theorem CDivB.small{i j:Int}(h:0<j)(h2:j<1073741824):CDivB i j:=⟨h,by have h3:j.natAbs.log2<30:=(Nat.log2_lt Jn).mpr Jn;omega⟩
end
theorem aO{c A B:Prop}[Decidable c](h1:c->A)(h2:¬c->B):if decide c=true then A else B:=by
 by_cases h:c
 ·rw [zq1 (zq5 h)];exact h1 h
 ·rw [zq0 (fun q=>h (of_decide_eq_true q))];exact h2 h
structure bf(K:W.Frag)(mg:Str->Option Value)(x:Str)(st:Stmt)(ps:List Str)(f:Addr)(fd:FuncData):Prop where
 F:Fun K x x st f fd
 B:Binds K fd ps []
 M:mg x=some (.ref f)
theorem qZ{X:Cx}{k:Nat}{f:Addr}{fd:FuncData}{ps:List Str}{sp:Sp}{x:Str}{st:Stmt}{p pos:Pos}{e:Expr}{es:List Expr}{t:TA}(D:bf X.K X.mg x st ps f fd)(G:FnOk X.prog X.w X.K X.mg X.base CX0 k f fd ps sp)(hr:Room k X.A)
  (ha:PA X (e::es) t) (hg:Gl X x:=by rfl) (hdb:(x==("__debug__":Str))=false:=by decide) (he:starEach (e::es) X.env=(false,eval e X.env)::starEach es X.env:=by rfl) (hpl:(backTo pos (starEach es X.env)).any (·.1)=false:=by rfl) :
  PE X (.Call (.Name x p) (e::es) [] pos) (iN sp [] E0 t):=nh G hr hg D.M D.F.kp D.B .nil ng ha hdb he hpl
def Ite(K:W.Frag)(a:Addr):It:=
  ⟨fun i H=>∃xs x,SqL K H a xs/\xs[i]?=some x,
   fun i H x H'=>∃p y,x=.ref p/\H p=none/\H'=upd H p (.tup [.int i,y])/\∀xs,SqL K H a xs->xs[i]?=some y,
   fun i H=>∃xs,SqL K H a xs/\xs.length<=i⟩
theorem oY{P:Program}{w:World}{K:W.Frag}{elts:List Expr}{k0:Nat}{pos0:Pos}(a e it:Addr)(hei:e≠it):
  nQ P w K (.Tuple elts k0 pos0) (Ite K a) [e,it] e (fun i h=>(∃old,IsEnum h e it i old)/\h.IsListIter it a i) where
 mem:=by simp
 obj:=fun i h ⟨⟨old,he⟩,hit⟩ b hb=>by
  rcases zq4.mp hb with rfl | hb
  ·exact ⟨_,he,fun v z=>by
    have z':Data.fields _=Data.cell v:=z
    cases z'⟩
  ·have e':b=it:=by simpa using hb
   subst e';obtain ⟨o,q,c,d⟩:=hit;exact zn o q (fun v z=>by rw [d] at z;cases z)
 keep:=fun i h h' ⟨⟨old,he⟩,hit⟩ k=>⟨⟨old,k e Jo _ he⟩,hit.at fun o q=>k it Jo o q⟩
 item:=by
  intro X hP hw hK hc i pins s σ H E I hf st hg;subst hP hw hK;obtain ⟨xs,x,hq,hx⟩:=hg;obtain ⟨its,rv,p,hz⟩:=I.list hq;obtain ⟨u,hu,ru⟩:=rv.get hx;obtain ⟨⟨old,he⟩,hit⟩:=st;obtain ⟨f0,f1,f2,f3,f4,f5⟩:=hf e Jo;obtain ⟨g0,g1,g2,g3,g4,g5⟩:=hf it Jo;refine wpAny_pyNext_enum_item he hit p.isList (x:=u) (by simpa using hu) hei fun h1 ho hit1 hT hsz hk=>?_;refine zn _ rfl (wpAny_letOwnedTupleGo_enum ho fun h2 he2 hs2=>?_);replace hs2:Heap.SameBut e h1 h2:=hs2;have helt:e<s.heap.objs.size:=bP he;have hk2:∀b o,b≠e->b≠it->s.heap.get? b=some o->h2.get? b=some o:=fun b o b1 b2 q=>(hs2.2 b b1).trans (hk b o b1 b2 q);have hT2:h2.get? s.heap.objs.size=some {cls:=.type "tuple",data:=.seq #[.int i s.toks,u]}:=(hs2.2 _ (z8 helt)).trans hT;have hn:H s.heap.objs.size=none:=I.hok.fresh (zq9 _);have nE:∀b v,H b=some v->b≠e:=fun b v q z=>by rw [z,f0] at q;cases q
  have nI:∀b v,H b=some v->b≠it:=fun b v q z=>by rw [z,g0] at q;cases q
  have ok2:HOk X.prog X.w H h2:=fun b v q=>(I.hok b v q).stay (fun c v' hc r=>by
   rcases hc with z | z
   ·exact hk2 c v' (by rw [z];exact nE b v q) (by rw [z];exact nI b v q) r
   ·exact hk2 c v' (nE c _ z) (nI c _ z) r) (fun _ r=>r) fun _ _ r=>r
  have ok3:HOk X.prog X.w (upd H s.heap.objs.size (.tup [.int i,x])) h2:=fun b v q=>by
   by_cases hb:b=s.heap.objs.size
   ·subst hb;rw [ae] at q
    cases q
    exact ⟨by show 2<=sizeLine;decide,zn ([.int i s.toks,u]) (.cons ⟨_,rfl⟩ (.cons ru .nil)) (zAD _ hT2 rfl ⟨_,rfl⟩)⟩
   ·rw [aE hb] at q;exact (ok2 b v q).stay (fun c v' _ r=>r) (fun c r=>by rw [aE (aA r hn)];exact r) fun c ys r=>by rw [aE (aA r hn)];exact r
  have nlt:∀{b:Addr} {o:Obj},s.heap.get? b=some o->b≠s.heap.objs.size:=fun q=>cZ (bP q);have I2:Inv X pins σ (upd H s.heap.objs.size (.tup [.int i,x])) {s with heap:=h2,toks:=s.toks+1}:=
   I.step (g':=s.gens) (d':=s.drawn) (ch:=[e,it]) (fun b hb=>by
     rcases zq4.mp hb with rfl | hb
     ·exact zAG f3 f1 f4 f5
     ·have e':b=it:=by simpa using hb
      subst e';exact zAG g3 g1 g4 g5)
    (fun b o _ _ hc q _=>hk2 b o (fun z=>hc (by simp [z])) (fun z=>hc (by simp [z])) q)
    (fun b o _ _ hc q _=>⟨o.slots,hk2 b o (fun z=>hc (by simp [z])) (fun z=>hc (by simp [z])) q⟩)
    (fun b o _ q n=>by rw [aE (nlt q)];exact n)
    (fun b o hc q=>⟨o,hk2 b o (fun z=>hc (by simp [z])) (fun z=>hc (by simp [z])) q⟩)
    (fun b ys q=>by rw [aE (aA q hn)];exact q) (fun b o v q=>by rw [aE (aA q hn)];exact q) (fun b ps q=>⟨#[],by rw [aE (aA q hn),q];simp⟩)
    (fun m ⟨o,es,ep,hm,r⟩=>zAI o es ep (hk2 _ o (Ne.symm f1) (Ne.symm g1) hm) r) ok3 I.bare
  refine zAK (.ref s.heap.objs.size) _ I2 rfl (zAC _ x rfl hn rfl (fun ys hy=>by rw [I.list_inj hy hq];exact hx)) ⟨⟨_,by simpa using he2⟩,hit1.at fun o y=>(hs2.2 it hei.symm).trans y⟩ fun b hb=>?_;rcases zq4.mp hb with rfl | hb
  ·rw [aE (cZ helt)];exact f0
  ·have e':b=it:=by simpa using hb
   subst e';obtain ⟨o,q,_⟩:=hit;rw [aE (nlt q)];exact g0
 done:=by intro X hP hw hK hc i pins s σ H E I hf st hg;subst hP hw hK;obtain ⟨xs,hq,hx⟩:=hg;obtain ⟨its,rv,p,hz⟩:=I.list hq;obtain ⟨⟨old,he⟩,hit⟩:=st;obtain ⟨g0,g1,g2,g3,g4,g5⟩:=hf it Jo;have hl:=rv.length;exact wpAny_pyNext_enum_end (I.ok.hd hc) he hit p.isList (by simp;omega) fun h' eb=>⟨rfl,I.turned (t':=s.toks) (it:=it) (fun b o hb q=>eb b o hb q) g0 g1 g3 g4 g5⟩
 self:=fun _ _ _ _ _ ⟨⟨_,he⟩,_⟩ h=>wpAny_pyIter_enum he h
def qz(K:W.Frag)(ta:TA):TI:=fun σ H R=>ta σ H fun vs H1=>∃a,vs=[.ref a]/\(∃xs,SqL K H1 a xs)/\R (Ite K a) H1
theorem uw{X:Cx}{a:Expr}{ta:TA}{p pos pos0:Pos}{elts:List Expr}{k0:Nat}(hm:X.mg "enumerate"=none) (ha:PA X [a] ta) (hg:Gl X "enumerate":=by rfl) (hs:starEach [a] X.env=[(false,eval a X.env)]:=by rfl) :
  PI X (.Tuple elts k0 pos0) (.Call (.Name "enumerate" p) [a] [] pos) (qz X.K ta):=by
 intro pins s σ H R I h;refine Call_ (gJ I hg hm boot_enumerate (PyProof.Rows.callWith_type1 (thn (ha pos pins s σ H _ I h) fun us s1 hhx=>?_) hs rfl));obtain ⟨vs,H1,I1,r1,q1⟩:=hhx;obtain ⟨l,e,⟨xs,hq⟩,q⟩:=q1;subst e
 cases r1 with
 |cons r rr=>
  cases rr
  cases r
  obtain ⟨its,rv,pl,hz⟩:=I1.list hq;refine call_enumerate_list pl.isList fun h' he hit hsz hk=>?_;refine wpAny_pyIter_enum he ?_;have I2:Inv X pins σ H1 {s1 with heap:=h'}:=I1.kept (t':=s1.toks) hk;refine zBE (s1.heap.objs.size+1) ([s1.heap.objs.size+1,s1.heap.objs.size]) _ _ H1 rfl I2 (oY l _ _ (Nat.succ_ne_self _)) ⟨⟨_,he⟩,hit⟩ (fun b hb=>?_) q;have hle:s1.heap.objs.size<=b:=by
   rcases zq4.mp hb with rfl | hb
   ·exact v0 _
   ·rw [zq15.mp hb];exact zq9 _
  exact I1.fpOk hle (I1.hok.fresh hle)
theorem qp{K:W.Frag}{a:Addr}{xs:List V}{g:TG}{tb:TS}{D:cG}{σ:St}{H:Hp}(Pv:Nat->St->Hp->Prop)(h0:Pv 0 σ H)(hl:∀i σ H,i<=xs.length->Pv i σ H->SqL K H a xs)
  (hs:∀(i:Nat)x σ H p,xs[i]?=some x->H p=none->Pv i σ H->g (.ref p) σ (upd H p (.tup [.int i,x])) fun σ2 H2=>tb {D with nx:=Pv (i+1),ct:=Pv (i+1),bk:=D.nx} σ2 H2) (hd:∀σ H,Pv xs.length σ H->D.nx σ H) :
  ∃W:Nat->Nat->St->Hp->Prop,(∃m,W 0 m σ H)/\∀i m σ H,W i m σ H->
   ((Ite K a).stop i H/\D.nx σ H)\/((Ite K a).go i H/\∃N:St->Hp->Prop,(∀σ' H',N σ' H'->∃m',m'<m/\W (i+1) m' σ' H')/\∀x H',(Ite K a).yld i H x H'->g x σ H' fun σ2 H2=>tb {D with nx:=N,ct:=N,bk:=D.nx} σ2 H2):=by
 refine zn (fun i m σ H=>m=xs.length-i/\i<=xs.length/\Pv i σ H) (zAD xs.length Jo (eC _) h0) ?_;rintro i m σ H ⟨rfl,hi,p⟩;have q:=hl i σ H hi p
 by_cases hlt:i<xs.length
 ·refine .inr ⟨zAE xs (xs[i]) q (by simp [hlt]),zn (Pv (i+1)) (fun σ' H' p'=>zAF (xs.length-(i+1)) Jn rfl hlt p') fun x H' y=>?_⟩;obtain ⟨pp,z,ex,hn,eH,y⟩:=y;subst ex eH;exact hs i z σ H pp (y xs q) hn p
 ·have e:i=xs.length:=by omega
  subst e;exact .inl ⟨zn xs q (zq9 _),hd σ H p⟩
theorem jI{ns:List Int}(h:W.WData.layableAll [W.WData.list (ns.map W.WData.int)]=true):∀n∈ns,Builtin.Int.intBits n<=2 ^ 20:=fun n hn=>by have h1:=(W.layW_cons h).1;have h2:=W.layableW_item h1 (W.WData.int n) (zq37.mpr (zn n hn rfl));exact PyData.bits_of_layable (W.layable0_of_all (W.lay0_int h2))
section
open PySem.W PySem.Calls
theorem su{l:W.OpenLaw}{n k:Nat}{q:Program}{loose:List Str}{XP:(Str->Option Value)->Heap->Prop}{YP:World->Heap->Prop}{d:DefRec}{K:Params->W.Frag}{CX:World->CXT}{sp:World->Sp}{x:Str}
  (hn:l.most=some n) (hn2:n<=sizeLine) (hdf:d.params.defaults=[]) (hr:Room k callerA)
  (hY:∀(w:World)(h:Heap),YP w h->(K w.params).In h)
  (F:∀(w:World)(mg:Str->Option Value)(fa:Addr)(h:Heap),(K w.params).In h->h.Ns mainGlobals mg->mg d.name=some (.ref fa)->
   ∃fd:FuncData,(∀(s:Shared)(u:Value),BindsTo s fd ⟨[u],[]⟩ [(x,u)])/\
    ∀base:Heap,(K w.params).In base->base.Ns mainGlobals mg->FnOk l.prog w (K w.params) mg base (CX w) k fa fd [x] (sp w))
  (hsp:∀(w:World)(H:Hp)(a:Addr)(ns:List Int),ns.length<=n->(∀z∈ns,Builtin.Int.intBits z<=2 ^ 20)->wH H->SqL (K w.params) H a (ns.map V.int)->sp w [.ref a] H (fun v _=>v=.bl true) fun _ _ _=>False)
  (hCX:∀(w:World)(H:Hp)(s:Shared)(e:Value)(s':Shared),CX w [] H s (fun _ _ _=>False) e s'->False) :
  W.WalkO q loose XP YP l.row.toRowW d [] (fun f vs=>PySem.call f vs):=by
 intro w s₀ s₁ mg mb G Y fa o pm cd doc dV kV ho hd hcd hD hmg hg args vals as hpre hlay hrd hwl hlo;obtain rfl:dV=.none:=Dflts.none hD hdf;obtain rfl:kV=.none:=Dflts.noKw hD;obtain ⟨a,vs,ns,rfl,rfl,hobj,hints,hlen⟩:=Att.oV hn hpre hwl;have KX:=hY w _ Y;obtain ⟨fd,hb,hF⟩:=F w mg fa _ KX G.T.g hmg;refine enter_call (codeAny_mono (qA KX G.T.g G.T.b G.T.builtins G.T.nolimit hg hobj hints (gf hlen hn2) hr hF hb (fun H hO hS=>hsp w H a ns hlen (jI hlay) hO hS) fun H e s'=>hCX w H s₁ e s') fun r s' hq=>?_);obtain ⟨rfl,h2,h3,h4⟩:=hq;exact zAG (.inl (zAQ (.bool true) (.bool true) ([]) rfl (fun _=>rfl) (.bool true) (Att.oN l _) fun _=>⟨List.Pairwise.nil,fun _ hm=>(nomatch hm)⟩)) h2 h3 h4
end
end L2
namespace L2
variable {a0 a1 a10 a2 a3 a4 a5 a6 a7 a8 a9:Option V} {i j:Int} {p:Addr} {r:St} {ta te:TE} {xs:List V}
section
variable {H:Hp} {Q:VK} {σ:St} {D:cG}
theorem B0{v:V}{b:Option V}{Z:St->Hp->Prop}:bD 0 v (b::r) H Z=Z (some v::r) H:=rfl
theorem B1{v:V}{b:Option V}{Z:St->Hp->Prop}:bD 1 v (a0::b::r) H Z=Z (a0::some v::r) H:=rfl
theorem B3{v:V}{b:Option V}{Z:St->Hp->Prop}:bD 2 v (a0::a1::b::r) H Z=Z (a0::a1::some v::r) H:=rfl
theorem B4{v:V}{b:Option V}{Z:St->Hp->Prop}:bD 3 v (a0::a1::a2::b::r) H Z=Z (a0::a1::a2::some v::r) H:=rfl
theorem B5{v:V}{b:Option V}{Z:St->Hp->Prop}:bD 4 v (a0::a1::a2::a3::b::r) H Z=Z (a0::a1::a2::a3::some v::r) H:=rfl
theorem B6{v:V}{b:Option V}{Z:St->Hp->Prop}:bD 5 v (a0::a1::a2::a3::a4::b::r) H Z=Z (a0::a1::a2::a3::a4::some v::r) H:=rfl
theorem B7{v:V}{b:Option V}{Z:St->Hp->Prop}:bD 6 v (a0::a1::a2::a3::a4::a5::b::r) H Z=Z (a0::a1::a2::a3::a4::a5::some v::r) H:=rfl
theorem B8{v:V}{b:Option V}{Z:St->Hp->Prop}:bD 7 v (a0::a1::a2::a3::a4::a5::a6::b::r) H Z=Z (a0::a1::a2::a3::a4::a5::a6::some v::r) H:=rfl
theorem B9{v:V}{b:Option V}{Z:St->Hp->Prop}:bD 8 v (a0::a1::a2::a3::a4::a5::a6::a7::b::r) H Z=Z (a0::a1::a2::a3::a4::a5::a6::a7::some v::r) H:=rfl
theorem Ba{v:V}{b:Option V}{Z:St->Hp->Prop}:bD 9 v (a0::a1::a2::a3::a4::a5::a6::a7::a8::b::r) H Z=Z (a0::a1::a2::a3::a4::a5::a6::a7::a8::some v::r) H:=rfl
theorem A5{v:V}{b:Option V}{Z:St->Hp->Prop}:bD 10 v (a0::a1::a2::a3::a4::a5::a6::a7::a8::a9::b::r) H Z=Z (a0::a1::a2::a3::a4::a5::a6::a7::a8::a9::some v::r) H:=rfl
theorem A6{v:V}{b:Option V}{Z:St->Hp->Prop}:bD 11 v (a0::a1::a2::a3::a4::a5::a6::a7::a8::a9::a10::b::r) H Z=Z (a0::a1::a2::a3::a4::a5::a6::a7::a8::a9::a10::some v::r) H:=rfl
theorem A7{v:V}{b:Option V}{Z:St->Hp->Prop}{a11:Option V}:bD 12 v (a0::a1::a2::a3::a4::a5::a6::a7::a8::a9::a10::a11::b::r) H Z=Z (a0::a1::a2::a3::a4::a5::a6::a7::a8::a9::a10::a11::some v::r) H:=rfl
theorem A8{v:V}{b:Option V}{Z:St->Hp->Prop}{a11:Option V}{a12:Option V}:bD 13 v (a0::a1::a2::a3::a4::a5::a6::a7::a8::a9::a10::a11::a12::b::r) H Z=Z (a0::a1::a2::a3::a4::a5::a6::a7::a8::a9::a10::a11::a12::some v::r) H:=rfl
theorem r_c{v:V}:tC v σ H Q=Q v H:=rfl
theorem Be{r:R2}{tb:TE}:tOp r ta tb σ H Q=ta σ H fun x H1=>tb σ H1 fun y H2=>r x y H2 Q:=rfl
theorem Bh{r:V->Hp->VK->Prop}:tUn r ta σ H Q=ta σ H fun x H1=>r x H1 Q:=rfl
theorem jQ:decide (V.int i=V.int j)=decide (i=j):=by
 by_cases h:i=j
 ·rw [zq5 h,zq5 (congrArg V.int h)]
 ·rw [zq6 h,zq6 fun q=>h (V.int.inj q)]
theorem jR{i j:Str}:decide (V.str i=V.str j)=decide (i=j):=by
 by_cases h:i=j
 ·rw [zq5 h,zq5 (congrArg V.str h)]
 ·rw [zq6 h,zq6 fun q=>h (V.str.inj q)]
theorem A1:rEq (.int i) (.int j) H Q=Q (.bl (decide (i=j))) H:=by show (lU (.int i) (.int j)=true/\Q (.bl (decide (V.int i=V.int j))) H)=_;rw [jQ];exact propext ⟨fun h=>h.2,fun h=>⟨rfl,h⟩⟩
theorem A2{i j:Str}:rEq (.str i) (.str j) H Q=Q (.bl (decide (i=j))) H:=by show (lU (.str i) (.str j)=true/\Q (.bl (decide (V.str i=V.str j))) H)=_;rw [jR];exact propext ⟨fun h=>h.2,fun h=>⟨rfl,h⟩⟩
theorem Ag:rNe (.int i) (.int j) H Q=Q (.bl (! decide (i=j))) H:=by show (lU (.int i) (.int j)=true/\Q (.bl (! decide (V.int i=V.int j))) H)=_;rw [jQ];exact propext ⟨fun h=>h.2,fun h=>⟨rfl,h⟩⟩
theorem Ah{i j:Str}:rNe (.str i) (.str j) H Q=Q (.bl (! decide (i=j))) H:=by show (lU (.str i) (.str j)=true/\Q (.bl (! decide (V.str i=V.str j))) H)=_;rw [jR];exact propext ⟨fun h=>h.2,fun h=>⟨rfl,h⟩⟩
theorem xV{c:Bool}{Z:Bool->Prop}:(∃k,V.bl c=V.bl k/\Z k)=Z c:=propext ⟨by rintro ⟨_,e,q⟩;cases e;exact q,by intro q;exact zn c rfl q⟩
theorem uB{c:Int}{Z:Int->Prop}:(∃k,V.int c=V.int k/\Z k)=Z c:=propext ⟨by rintro ⟨_,e,q⟩;cases e;exact q,by intro q;exact zn c rfl q⟩
theorem yw{t:TE}{Z:Bool->Hp->Prop}:sf t σ H Z=t σ H fun x H'=>∃k,x=.bl k/\Z k H':=rfl
theorem r_B{t:TE}{Z:Bool->Hp->Prop}:tB t σ H Z=t σ H fun x H'=>∃k,x=.bl k/\Z k H':=rfl
theorem zT{t u:TT}{Z:Bool->Hp->Prop}:Aw t u σ H Z=t σ H fun c H1=>if c=true then u σ H1 Z else Z false H1:=rfl
theorem Bf{t u:TT}{Z:Bool->Hp->Prop}:tOr t u σ H Z=t σ H fun c H1=>if c=true then Z true H1 else u σ H1 Z:=rfl
theorem Aj{t:TT}{Z:Bool->Hp->Prop}:AA t σ H Z=t σ H fun c H1=>Z (! c) H1:=rfl
theorem xJ{tb:TE}:wt ta tb σ H Q=ta σ H fun x H1=>∃c,x=.bl c/\if c=true then tb σ H1 Q else Q (.bl false) H1:=rfl
theorem Ak{tb:TE}:AB ta tb σ H Q=ta σ H fun x H1=>∃c,x=.bl c/\if c=true then Q (.bl true) H1 else tb σ H1 Q:=rfl
theorem Bb{t:TT}{tb:TE}:tIf t ta tb σ H Q=t σ H fun c H1=>if c=true then ta σ H1 Q else tb σ H1 Q:=rfl
theorem yq:ww D σ H=D.nx σ H:=rfl
theorem rH{t u:TS}:yS t u D σ H=t {D with nx:=u D} σ H:=rfl
theorem zY:rZ D σ H=D.bk σ H:=rfl
theorem xQ:wu te D σ H=te σ H fun _ H1=>D.nx σ H1:=rfl
theorem Am:AC te D σ H=te σ H D.rt:=rfl
theorem vw{c:TT}{t u:TS}:yQ c t u D σ H=c σ H fun b H1=>if b=true then t D σ H1 else u D σ H1:=rfl
theorem zU{g:TG}:uU te g D σ H=te σ H fun x H1=>g x σ H1 D.nx:=rfl
theorem AW{r:List V->Hp->VK->Prop}{t:TA}:tCB r t σ H Q=t σ H fun vs H1=>r vs H1 Q:=rfl
theorem Ai{Z:List V->Hp->Prop}:m4 σ H Z=Z [] H:=rfl
theorem xP{tr:TA}{Z:List V->Hp->Prop}:sd ta tr σ H Z=ta σ H fun x H1=>tr σ H1 fun xs H2=>Z (x::xs) H2:=rfl
theorem xO{sp:Sp}{E:XK}{t:TA}:iN sp [] E t σ H Q=t σ H fun vs H1=>sp vs H1 Q E:=by show (t σ H fun vs H1=>sp (vs++[]) H1 Q E)=_;simp only [List.append_nil]
theorem Aq{t:TA}:AD t σ H Q=t σ H fun xs H1=>xs.length<=sizeLine/\∀p,H1 p=none->Q (.ref p) (upd H1 p (.tup xs)):=rfl
theorem Af{t:TA}:Az t σ H Q=t σ H fun xs H1=>xs.length<=sizeLine/\∀p,H1 p=none->Q (.ref p) (upd H1 p (.lst xs)):=rfl
theorem Bg{r:V->Option Int->Option Int->Hp->VK->Prop}{tl th:TO}:tSl r te tl th σ H Q=te σ H fun x H1=>tl σ H1 fun l H2=>th σ H2 fun u H3=>r x l u H3 Q:=rfl
theorem rC{Z:Option Int->Hp->Prop}:nL σ H Z=Z none H:=rfl
theorem yr{Z:Option Int->Hp->Prop}:wx te σ H Z=te σ H fun x H1=>∃i,x=.int i/\Z (some i) H1:=rfl
theorem xX{Z:St->Hp->Prop}:zm [] σ H Z=Z σ H:=propext ⟨fun h=>h.2,fun h=>⟨rfl,h⟩⟩
theorem uC{t:TG}{u:TGs}{v:V}{r:List V}{Z:St->Hp->Prop}:vh t u (v::r) σ H Z=t v σ H fun σ' H'=>u r σ' H' Z:=propext ⟨by rintro ⟨_,_,e,q⟩;cases e;exact q,by intro q;exact zAE v r rfl q⟩
theorem Aa{A B:Prop}:(if false=true then A else B)=B:=zq0 zq8
theorem Bd:(! true)=false:=rfl
theorem Bc:(! false)=true:=rfl
theorem yd:(([]:List V).length<=sizeLine)=True:=eq_true (by show 0<=sizeLine;decide)
theorem ye{a0:V}:(([a0]:List V).length<=sizeLine)=True:=eq_true (by show 1<=sizeLine;decide)
theorem yf{a0 a1:V}:(([a0,a1]:List V).length<=sizeLine)=True:=eq_true (by show 2<=sizeLine;decide)
theorem yg{a0 a1 a2:V}:(([a0,a1,a2]:List V).length<=sizeLine)=True:=eq_true (by show 3<=sizeLine;decide)
theorem yh{a0 a1 a2 a3:V}:(([a0,a1,a2,a3]:List V).length<=sizeLine)=True:=eq_true (by show 4<=sizeLine;decide)
theorem yi{a0 a1 a2 a3 a4:V}:(([a0,a1,a2,a3,a4]:List V).length<=sizeLine)=True:=eq_true (by show 5<=sizeLine;decide)
theorem yj{a0 a1 a2 a3 a4 a5:V}:(([a0,a1,a2,a3,a4,a5]:List V).length<=sizeLine)=True:=eq_true (by show 6<=sizeLine;decide)
theorem yk{a0 a1 a2 a3 a4 a5 a6:V}:(([a0,a1,a2,a3,a4,a5,a6]:List V).length<=sizeLine)=True:=eq_true (by show 7<=sizeLine;decide)
theorem ym{a0 a1 a2 a3 a4 a5 a6 a7:V}:(([a0,a1,a2,a3,a4,a5,a6,a7]:List V).length<=sizeLine)=True:=eq_true (by show 8<=sizeLine;decide)
end
def nO(J:It)(g:TG)(tb:TS)(D:cG)(σ:St)(H1:Hp):Prop:=∃W:Nat->Nat->St->Hp->Prop,(∃m,W 0 m σ H1)/\∀i m σ H,W i m σ H->
 (J.stop i H/\D.nx σ H)\/(J.go i H/\∃N:St->Hp->Prop,(∀σ' H',N σ' H'->∃m',m'<m/\W (i+1) m' σ' H')/\∀x H',J.yld i H x H'->g x σ H' fun σ2 H2=>tb {D with nx:=N,ct:=N,bk:=D.nx} σ2 H2)
section
variable {g:TG} {tb:TS} {D:cG} {σ:St} {H:Hp}
theorem A4{wi:TI}:yP wi g tb D σ H=wi σ H fun J H1=>nO J g tb D σ H1:=rfl
theorem uD{K:W.Frag}{ta:TA}{R:It->Hp->Prop}:qz K ta σ H R=ta σ H fun vs H1=>∃a,vs=[.ref a]/\(∃xs,SqL K H1 a xs)/\R (Ite K a) H1:=rfl
theorem uE{K:W.Frag}{tl:TE}{R:It->Hp->Prop}:vi K tl σ H R=tl σ H fun x H1=>∃a,x=.ref a/\(∃xs,SqL K H1 a xs)/\R (Itl K a) H1:=rfl
theorem uF{ta:TA}{R:It->Hp->Prop}:vj ta σ H R=ta σ H fun vs H1=>∃j:Int,vs=[.int j]/\-(2 ^ 62)<=j/\j<2 ^ 62/\R (Itr 0 j.toNat) H1:=rfl
theorem xR{c:Int}{Z:Int->Prop}:(∃k,[V.int c]=[V.int k]/\Z k)=Z c:=propext ⟨by rintro ⟨_,e,q⟩;cases e;exact q,by intro q;exact zn c rfl q⟩
theorem xS{c:Addr}{Z:Addr->Prop}:(∃k,[V.ref c]=[V.ref k]/\Z k)=Z c:=propext ⟨by rintro ⟨_,e,q⟩;cases e;exact q,by intro q;exact zn c rfl q⟩
theorem A3{c:Addr}{Z:Addr->Prop}:(∃k,V.ref c=V.ref k/\Z k)=Z c:=propext ⟨by rintro ⟨_,e,q⟩;cases e;exact q,by intro q;exact zn c rfl q⟩
theorem qt{lo:Int}{n:Nat}(Pv:Nat->St->Hp->Prop)(h0:Pv 0 σ H)
 (hs:∀(i:Nat)σ H,i<n->Pv i σ H->g (.int (lo+i)) σ H fun σ2 H2=>tb {D with nx:=Pv (i+1),ct:=Pv (i+1),bk:=D.nx} σ2 H2) (hd:∀σ H,Pv n σ H->D.nx σ H):nO (Itr lo n) g tb D σ H:=ou Pv h0 hs hd
theorem fD{n:Nat}(Pv:Nat->St->Hp->Prop)(h0:Pv 0 σ H)
 (hs:∀(i:Nat)σ H,i<n->Pv i σ H->g (.int (i:Int)) σ H fun σ2 H2=>tb {D with nx:=Pv (i+1),ct:=Pv (i+1),bk:=D.nx} σ2 H2) (hd:∀σ H,Pv n σ H->D.nx σ H):nO (Itr 0 n) g tb D σ H:=
 qt Pv h0 (fun i σ H hi p=>by rw [sJ];exact hs i σ H hi p) hd
theorem mP{K:W.Frag}{a:Addr}(Pv:Nat->St->Hp->Prop)(h0:Pv 0 σ H)(hl:∀i σ H,i<=xs.length->Pv i σ H->SqL K H a xs)
 (hs:∀(i:Nat)x σ H p,xs[i]?=some x->H p=none->Pv i σ H->g (.ref p) σ (upd H p (.tup [.int i,x])) fun σ2 H2=>tb {D with nx:=Pv (i+1),ct:=Pv (i+1),bk:=D.nx} σ2 H2) (hd:∀σ H,Pv xs.length σ H->D.nx σ H):nO (Ite K a) g tb D σ H:=qp Pv h0 hl hs hd
theorem eZ{K:W.Frag}{a:Addr}(Pv:Nat->St->Hp->Prop)(h0:Pv 0 σ H)(hl:∀i σ H,i<=xs.length->Pv i σ H->SqL K H a xs)
 (hs:∀(i:Nat)x σ H,xs[i]?=some x->Pv i σ H->g x σ H fun σ2 H2=>tb {D with nx:=Pv (i+1),ct:=Pv (i+1),bk:=D.nx} σ2 H2) (hd:∀σ H,Pv xs.length σ H->D.nx σ H):nO (Itl K a) g tb D σ H:=qr Pv h0 hl hs hd
theorem Same.upd{H:Hp}{o:HO}(h:H p=none):Same H (upd H p o):=fun b u e=>by rw [aE (aA e h)];exact e
theorem Same.seqT{K:W.Frag}{H H':Hp}{a:Addr}(e:Same H H')(h:SqT K H a xs):SqT K H' a xs:=by
 rcases h with (h | ⟨o,h⟩) | h
 ·exact .inl (.inl (e _ _ h))
 ·exact .inl (.inr ⟨o,e _ _ h⟩)
 ·exact .inr h
end
section
variable {H:Hp} {Q:VK} {σ:St} {D:cG} {K:W.Frag}
theorem AY{T:String}{r:V->List V->Hp->VK->Prop}{to:TE}{t:TA}:tBM K T r to t σ H Q=to σ H fun x H1=>tyV K T x H1/\t σ H1 fun xs H2=>r x xs H2 Q:=rfl
theorem zX{T:String}{r:V->List V->Hp->VK->Prop}{to:TE}:Ax K T r to σ H Q=to σ H fun x H1=>tyV K T x H1/\r x [] H1 Q:=rfl
theorem Ae{z:Str}:zN (.str z) (.int i) H Q=(z.length<=sizeLine/\∃c,atI z.cps.toList i=some c/\Q (.str ⟨#[c]⟩) H):=propext ⟨by rintro ⟨_,_,c,e1,e2,h1,h2,q⟩;cases e1;cases e2;exact ⟨h1,zn c h2 q⟩,by rintro ⟨h1,c,h2,q⟩;exact zAQ _ _ c rfl rfl h1 h2 q⟩
theorem Ac:zM K (.ref p) (.int i) H Q=∃xs v,SqL K H p xs/\atI xs i=some v/\Q v H:=propext ⟨by rintro ⟨_,xs,_,v,e1,e2,h1,h2,q⟩;cases e1;cases e2;exact zAA xs v h1 h2 q,by rintro ⟨xs,v,h1,h2,q⟩;exact zAS _ xs _ v rfl rfl h1 h2 q⟩
theorem vx:xH K (.ref p) (.int i) H Q=∃xs v,SqT K H p xs/\atI xs i=some v/\Q v H:=propext ⟨by rintro ⟨_,xs,_,v,e1,e2,h1,h2,q⟩;cases e1;cases e2;exact zAA xs v h1 h2 q,by rintro ⟨xs,v,h1,h2,q⟩;exact zAS _ xs _ v rfl rfl h1 h2 q⟩
theorem A0{a b:Addr}:xF (.ref a) (.ref b) H Q=∃xs zs,H a=some (.lst xs)/\H b=some (.lst zs)/\xs.length+zs.length<=sizeLine/\∀p,H p=none->Q (.ref p) (upd H p (.lst (xs++zs))):=propext ⟨by rintro ⟨_,_,xs,zs,e1,e2,h⟩;cases e1;cases e2;exact zAJ xs zs h,by rintro ⟨xs,zs,h⟩;exact zAN _ _ xs zs (zAB rfl rfl h)⟩
theorem Ao{a:Addr}{lo hi:Option Int}:zQ K (.ref a) lo hi H Q=∃xs,SqL K H a xs/\∀p,H p=none->Q (.ref p) (upd H p (.lst (cL xs lo hi))):=propext ⟨by rintro ⟨_,xs,e1,h⟩;cases e1;exact ⟨xs,h⟩,by rintro ⟨xs,h⟩;exact zAE _ xs rfl h⟩
theorem rp{a:Addr}{y:V}:nk (.ref a) [y] H Q=∃xs,H a=some (.lst xs)/\xs.length<sizeLine/\Q .non (upd H a (.lst (xs++[y]))):=propext ⟨by rintro ⟨_,xs,_,e1,e2,h⟩;cases e1;cases e2;exact ⟨xs,h⟩,by rintro ⟨xs,h⟩;exact zAU _ xs _ rfl rfl h⟩
theorem Al{a:Addr}:zO (.ref a) [] H Q=∃xs y,H a=some (.lst xs)/\xs[xs.length-1]?=some y/\Q y (upd H a (.lst xs.dropLast)):=propext ⟨by rintro ⟨_,xs,y,e1,_,h⟩;cases e1;exact zAJ xs y h,by rintro ⟨xs,y,h⟩;exact zAU _ xs y rfl rfl h⟩
theorem xU{a b:Str}{Z:Str->Str->Prop}:(∃i j,V.str a=V.str i/\V.str b=V.str j/\Z i j)=Z a b:=propext ⟨by rintro ⟨_,_,e1,e2,q⟩;cases e1;cases e2;exact q,by intro q;exact zAA a b rfl rfl q⟩
theorem xT{a:Addr}{Z:Addr->List V->Prop}:(∃p ys,[V.ref a]=[V.ref p]/\Z p ys)=∃ys,Z a ys:=propext ⟨by rintro ⟨_,ys,e1,q⟩;cases e1;exact ⟨ys,q⟩,by rintro ⟨ys,q⟩;exact zAE a ys rfl q⟩
theorem yb{c:Bool}{Z:Int->Prop}{Y:Bool->Prop}:((∃i,[V.bl c]=[V.int i]/\Z i)\/∃k,[V.bl c]=[V.bl k]/\Y k)=Y c:=propext ⟨fun h=>(by rcases h with ⟨_,e,q⟩ | ⟨_,e,q⟩<;>cases e<;>exact q),fun q=>Or.inr (zn c rfl q)⟩
theorem xZ{n:Nat}{t:TGs}{a:Addr}{Z:St->Hp->Prop}:zo K n t (.ref a) σ H Z=∃xs,SqT K H a xs/\xs.length=n/\t xs σ H Z:=propext ⟨by rintro ⟨_,xs,e,h⟩;cases e;exact ⟨xs,h⟩,by rintro ⟨xs,h⟩;exact zAE a xs rfl h⟩
end
end L2
namespace L2
section
variable {prog:Program} {w:World} {A:Around} {R:Result->Shared->Prop} {s:Shared}
end
end L2
namespace L2
inductive Dq (K:W.Frag) (H:Hp):Nat->V->V->Bool->Prop where
 |flat {n:Nat} {x y:V} (fx:cU x=true) (fy:cU y=true):Dq K H n x y (eqV x y)
 |same {n:Nat} {a:Addr}:Dq K H n (.ref a) (.ref a) true
 |lists {n:Nat} {a b:Addr} {xs ys:List V} (e:Nat->Bool) (ne:a≠b) (ha:SqL K H a xs) (hb:SqL K H b ys) (hl:xs.length=ys.length)
   (he:∀(j:Nat)x y,xs[j]?=some x->ys[j]?=some y->Dq K H n x y (e j)):Dq K H (n+1) (.ref a) (.ref b) ((List.range xs.length).all e)
 |lens {n:Nat} {a b:Addr} {xs ys:List V} (ne:a≠b) (ha:SqL K H a xs) (hb:SqL K H b ys) (hl:¬xs.length=ys.length):Dq K H (n+1) (.ref a) (.ref b) false
 |tups {n:Nat} {a b:Addr} {xs ys:List V} (e:Nat->Bool) (ne:a≠b) (ha:SqT K H a xs) (hb:SqT K H b ys)
   (he:∀(j:Nat)x y,xs[j]?=some x->ys[j]?=some y->Dq K H n x y (e j)):Dq K H (n+1) (.ref a) (.ref b) ((List.range (min xs.length ys.length)).all e&&xs.length==ys.length)
section
variable {X:Cx} {pins:List (Addr×Obj)} {σ:St} {H:Hp} {s:Shared}
theorem dw{xs:List V}{its:List Value}(r:Vals xs its){j:Nat}(h:j<its.toArray.size):∃x,xs[j]?=some x/\RelV x its.toArray[j]:=by
 have hl:=r.length;have hj:j<xs.length:=by simpa [hl] using h
 obtain ⟨u,hu,ru⟩:=r.get (dI hj);have e:its.toArray[j]=u:=by
  have h2:its[j]?=some u:=hu;have h3:j<its.length:=by simpa using h
  rw [dI h3] at h2;simpa using h2
 exact zn (xs[j]) (dI hj) (by rw [e];exact ru)
theorem Dq.at(I:Inv X pins σ H s){n:Nat}{x y:V}{b:Bool}(d:Dq X.K H n x y b):∀{A:Around} {v u:Value},RelV x v->RelV y u->A.units+n<cLine->SeqAt.EqAt A s v u b:=by
 induction d with
 |flat fx fy=>intro A v u rv ru _;exact qk rv ru fx fy
 |same=>intro A v u rv ru _;cases rv;cases ru;exact SeqAt.EqAt.same _
 | @lists n a b xs ys e ne ha hb hl he ih=>
  intro A v u rv ru hu
  cases rv;cases ru
  obtain ⟨its,r,p,_⟩:=I.list ha;obtain ⟨its2,r2,p2,_⟩:=I.list hb;have e1:=r.length;have e2:=r2.length;have z:=SeqAt.RcAt.lists (A:=A) (e:=e) p.isList p2.isList (by simp;omega) Jn fun j h1 h2=>by obtain ⟨x,hx,rx⟩:=dw r h1;obtain ⟨y,hy,ry⟩:=dw r2 h2;exact ih j x y hx hy rx ry (by show A.units+1+n<cLine;omega)
  have e3:its.toArray.size=xs.length:=by simp [e1]
  rw [e3] at z;exact SeqAt.EqAt.of_refs ne z
 | @lens n a b xs ys ne ha hb hl=>
  intro A v u rv ru hu
  cases rv;cases ru
  obtain ⟨its,r,p,_⟩:=I.list ha;obtain ⟨its2,r2,p2,_⟩:=I.list hb;have e1:=r.length;have e2:=r2.length;exact SeqAt.EqAt.of_refs ne (SeqAt.RcAt.lists_lengths (A:=A) p.isList p2.isList (by simp;omega) Jn)
 | @tups n a b xs ys e ne ha hb he ih=>
  intro A v u rv ru hu
  cases rv;cases ru
  obtain ⟨its,r,p,_⟩:=I.tuple ha;obtain ⟨its2,r2,p2,_⟩:=I.tuple hb;have e1:=r.length;have e2:=r2.length;have z:=SeqAt.RcAt.tuples (A:=A) (e:=e) (show s.heap.IsTuple a its.toArray from p) (show s.heap.IsTuple b its2.toArray from p2) Jn fun j h1 h2=>by obtain ⟨x,hx,rx⟩:=dw r h1;obtain ⟨y,hy,ry⟩:=dw r2 h2;exact ih j x y hx hy rx ry (by show A.units+1+n<cLine;omega)
  have e3:its.toArray.size=xs.length:=by simp [e1]
  have e4:its2.toArray.size=ys.length:=by simp [e2]
  rw [e3,e4] at z;exact SeqAt.EqAt.of_refs ne z
end
inductive Rq (K:W.Frag) (H:Hp) (n:Nat):V->V->Bool->Prop where
 |lists {a b:Addr} {xs ys:List V} (e:Nat->Bool) (ha:SqL K H a xs) (hb:SqL K H b ys) (hl:xs.length=ys.length)
   (he:∀(j:Nat)x y,xs[j]?=some x->ys[j]?=some y->Dq K H n x y (e j)):Rq K H n (.ref a) (.ref b) ((List.range xs.length).all e)
 |lens {a b:Addr} {xs ys:List V} (ha:SqL K H a xs) (hb:SqL K H b ys) (hl:¬xs.length=ys.length):Rq K H n (.ref a) (.ref b) false
 |tups {a b:Addr} {xs ys:List V} (e:Nat->Bool) (ha:SqT K H a xs) (hb:SqT K H b ys)
   (he:∀(j:Nat)x y,xs[j]?=some x->ys[j]?=some y->Dq K H n x y (e j)):Rq K H n (.ref a) (.ref b) ((List.range (min xs.length ys.length)).all e&&xs.length==ys.length)
def zK(K:W.Frag)(n:Nat):R2:=fun x y H Q=>∃b,Rq K H n x y b/\Q (.bl b) H
def AV(K:W.Frag)(n:Nat):R2:=fun x y H Q=>∃b,Rq K H n x y b/\Q (.bl (! b)) H
section
variable {X:Cx}
theorem lJ{n:Nat}(hu:X.A.units+(n+1)<cLine):OpR X (compareOp .Eq) (zK X.K n):=by
 intro pins s σ H x y v u Q I rx ry h;obtain ⟨b,d,q⟩:=h
 cases d with
 | @lists a c xs ys e ha hb hl he=>
  cases rx;cases ry
  obtain ⟨its,r,p,_⟩:=I.list ha;obtain ⟨its2,r2,p2,_⟩:=I.list hb;have e1:=r.length;have e2:=r2.length;have e3:its.toArray.size=xs.length:=by simp [e1]
  refine SeqAt.eq_listAt (e:=e) p.isList p2.isList (by simp;omega) Jn (fun j h1 h2=>?_) (zAA (.bl _) H I rfl (by rw [e3];exact q));obtain ⟨x,hx,rx⟩:=dw r h1;obtain ⟨y,hy,ry⟩:=dw r2 h2;exact (he j x y hx hy).at I rx ry (by show X.A.units+1+n<cLine;omega)
 | @lens a c xs ys ha hb hl=>
  cases rx;cases ry
  obtain ⟨its,r,p,_⟩:=I.list ha;obtain ⟨its2,r2,p2,_⟩:=I.list hb;have e1:=r.length;have e2:=r2.length;exact SeqAt.eq_list_lengthsAt p.isList p2.isList (by simp;omega) Jn (zAA (.bl _) H I rfl q)
 | @tups a c xs ys e ha hb he=>
  cases rx;cases ry
  obtain ⟨its,r,p,_⟩:=I.tuple ha;obtain ⟨its2,r2,p2,_⟩:=I.tuple hb;have e1:=r.length;have e2:=r2.length;have e3:its.toArray.size=xs.length:=by simp [e1]
  have e4:its2.toArray.size=ys.length:=by simp [e2]
  refine SeqAt.eq_tupleAt (e:=e) (show s.heap.IsTuple a its.toArray from p) (show s.heap.IsTuple c its2.toArray from p2) Jn (fun j h1 h2=>?_) (zAA (.bl _) H I rfl (by rw [e3,e4];exact q));obtain ⟨x,hx,rx⟩:=dw r h1;obtain ⟨y,hy,ry⟩:=dw r2 h2;exact (he j x y hx hy).at I rx ry (by show X.A.units+1+n<cLine;omega)
theorem lK{n:Nat}(hu:X.A.units+(n+1)<cLine):OpR X (compareOp .NotEq) (AV X.K n):=by
 intro pins s σ H x y v u Q I rx ry h;obtain ⟨b,d,q⟩:=h
 cases d with
 | @lists a c xs ys e ha hb hl he=>
  cases rx;cases ry
  obtain ⟨its,r,p,_⟩:=I.list ha;obtain ⟨its2,r2,p2,_⟩:=I.list hb;have e1:=r.length;have e2:=r2.length;have e3:its.toArray.size=xs.length:=by simp [e1]
  refine SeqAt.RcNeAt.lists (A:=X.A) (e:=e) p.isList p2.isList (by simp;omega) Jn (fun j h1 h2=>?_) X.prog X.w X.xe _ (zAA (.bl _) H I rfl (by rw [e3];exact q));obtain ⟨x,hx,rx⟩:=dw r h1;obtain ⟨y,hy,ry⟩:=dw r2 h2;exact (he j x y hx hy).at I rx ry (by show X.A.units+1+n<cLine;omega)
 | @lens a c xs ys ha hb hl=>
  cases rx;cases ry
  obtain ⟨its,r,p,_⟩:=I.list ha;obtain ⟨its2,r2,p2,_⟩:=I.list hb;have e1:=r.length;have e2:=r2.length;exact SeqAt.RcNeAt.lists_lengths (A:=X.A) p.isList p2.isList (by simp;omega) Jn X.prog X.w X.xe _ (zAA (.bl _) H I rfl q)
 | @tups a c xs ys e ha hb he=>
  cases rx;cases ry
  obtain ⟨its,r,p,_⟩:=I.tuple ha;obtain ⟨its2,r2,p2,_⟩:=I.tuple hb;have e1:=r.length;have e2:=r2.length;have e3:its.toArray.size=xs.length:=by simp [e1]
  have e4:its2.toArray.size=ys.length:=by simp [e2]
  refine SeqAt.RcNeAt.tuples (A:=X.A) (e:=e) (show s.heap.IsTuple a its.toArray from p) (show s.heap.IsTuple c its2.toArray from p2) Jn (fun j h1 h2=>?_) X.prog X.w X.xe _ (zAA (.bl _) H I rfl (by rw [e3,e4];exact q));obtain ⟨x,hx,rx⟩:=dw r h1;obtain ⟨y,hy,ry⟩:=dw r2 h2;exact (he j x y hx hy).at I rx ry (by show X.A.units+1+n<cLine;omega)
end
end L2
namespace L2
def dg(cells:List (Str×Addr)):List (Str×NameKind)->List (Str×Addr)->List (Str×Addr)
 | [],acc=>acc
 | (n,k)::r,acc=>if k==.free then dg cells r ((n,(cells.lookup n).getD 0)::acc) else dg cells r acc
theorem eF{scope:Scope}{env:Env}(h:∀y∈scope.names,y.2=.free->∃c,env.cells.lookup y.1=some c):closureFor scope env=pure (dg env.cells scope.names []):=by
 have key:∀(names:List (Str×NameKind)) (acc:List (Str×Addr)),(∀y∈names,y.2=.free->∃c,env.cells.lookup y.1=some c)->
   (forIn names acc fun x (r:List (Str×Addr))=>match x with
    | (name,kind)=>if (kind==.free)=true then do let c <- cellOf env name;pure (ForInStep.yield ((name,c)::r)) else pure (ForInStep.yield r))=(pure (dg env.cells names acc):Sem (List (Str×Addr))):=by
  intro names
  induction names with
  |nil=>intro acc _;rfl
  |cons y r ih=>
   intro acc hy;obtain ⟨n,k⟩:=y;rw [List.forIn_cons]
   cases hk:(k==NameKind.free) with
   |true=>
    have hk':k=.free:=by simpa using hk
    obtain ⟨c,hc⟩:=hy (n,k) bV hk';have e:cellOf env n=pure c:=by unfold cellOf;rw [show env.cells.lookup n=some c from hc]
    simp only [hk,if_true,e,pure_bind];rw [ih _ fun z hz=>hy z (bH _ hz)];simp only [dg,hk,if_true];rw [show env.cells.lookup n=some c from hc];rfl
   |false=>simp only [hk,Bool.false_eq_true,if_false,pure_bind];rw [ih _ fun z hz=>hy z (bH _ hz)];simp only [dg,hk,Bool.false_eq_true,if_false]
 refine (show closureFor scope env=((forIn scope.names [] fun x (r:List (Str×Addr))=>match x with
    | (name,kind)=>if (kind==.free)=true then do let c <- cellOf env name;pure (ForInStep.yield ((name,c)::r)) else pure (ForInStep.yield r)) >>= fun cs=>pure cs) from rfl).trans ?_
 rw [key scope.names [] h];rfl
theorem gB{cells:List (Str×Addr)}:∀{names:List (Str×NameKind)} {acc:List (Str×Addr)},(∀y∈names,y.2=.free->∃c,cells.lookup y.1=some c)->(∀y c,acc.lookup y=some c->cells.lookup y=some c)->
  ∀y c,(dg cells names acc).lookup y=some c->cells.lookup y=some c
 | [],_,_,ha=>ha
 | (n,k)::r,acc,hn,ha=>by
  intro y c;unfold dg
  split
  ·next hk=>
   refine gB (fun z hz=>hn z (bH _ hz)) (fun z d hz=>?_) y c;obtain ⟨e,he⟩:=hn (n,k) bV (by simpa using hk);rw [v3] at hz
   split at hz
   ·next hq=>
    have:z=n:=by simpa using hq
    subst this;have he':cells.lookup z=some e:=he;rw [he'] at hz ⊢;exact hz
   ·exact ha z d hz
  ·exact gB (fun z hz=>hn z (bH _ hz)) ha y c
theorem gA{cells:List (Str×Addr)}{y:Str}:∀{names:List (Str×NameKind)} {acc:List (Str×Addr)},(∃c,acc.lookup y=some c)->∃c,(dg cells names acc).lookup y=some c
 | [],_,h=>h
 | (n,k)::r,acc,h=>by
  unfold dg
  split
  ·refine gA ?_;rw [v3]
   split
   ·exact ⟨_,rfl⟩
   ·exact h
  ·exact gA h
theorem dM{cells:List (Str×Addr)}{y:Str}:∀{names:List (Str×NameKind)} {acc:List (Str×Addr)},(y,NameKind.free)∈names->∃c,(dg cells names acc).lookup y=some c
 | (n,k)::r,acc,h=>by
  unfold dg;rcases zq4.mp h with e | e
  ·cases e
   rw [zq1 Jp];exact gA ⟨(cells.lookup y).getD 0,by rw [v3,beq_self_eq_true]⟩
  ·split
   ·exact dM e
   ·exact dM e
structure Bk where
 C:Addr
 fp:List Addr
 s₂:Shared
 H₂:Hp
def Cx.blk(X:Cx)(N':List Str)(scope:Scope)(b:Bk):Cx:=
 {prog:=X.prog,w:=X.w,K:=X.K,mg:=X.mg,base:=X.base,A:=X.A,N:=N',s₀:=b.s₂,H₀:=b.H₂,env:=compEnvC scope (dg X.env.cells scope.names []) b.C X.env,outer:=X.stack,stack:=X.stack,ex:=b.fp,fn:=fun _=>false,calm:=X.calm,pn:=[],xe:=fun _ _=>False}
def b8(os:List (Option V))(ci:List Nat)(σ:St):St:=none::(os++ci.map fun i=>(σ[i]?).join)
def cg(J:It)(g:TG)(tt:TT)(te:TE)(nt:Nat)(ci:List Nat)(σ:St)(acc:Addr)(Q:Hp->Prop)(H0:Hp):Prop:=∃W:Nat->Nat->List V->Hp->Prop,(∃m,W 0 m [] H0)/\∀i m ys H,W i m ys H->
 (J.stop i H/\Q H)\/(J.go i H/\∃N:List V->Hp->Prop,(∀zs H',N zs H'->∃m',m'<m/\W (i+1) m' zs H')/\∀y H' os,os.length=nt->J.yld i H y H'->g y (b8 os ci σ) H' fun σ1 H1=>(∃os',os'.length=nt/\σ1=b8 os' ci σ)/\tt σ1 H1 fun b H2=>if b=true then te σ1 H2 fun z H3=>H3 acc=some (.lst ys)/\ys.length<sizeLine/\N (ys++[z]) (upd H3 acc (.lst (ys++[z]))) else N ys H2)
def lY(wi:TI)(g:Bk->TG)(tt:Bk->TT)(te:Bk->TE)(nt:Nat)(ci:List Nat):TE:=fun σ H Q=>wi σ H fun J H1=>∀acc,H1 acc=none->∀bk:Bk,cg J (g bk) (tt bk) (te bk) nt ci σ acc (fun H'=>Q (.ref acc) H') (upd H1 acc (.lst []))
def tD(X:Cx)(ifs:List Expr)(t:TT):Prop:=
 ∀(pins:List (Addr×Obj)) (s:Shared) (σ:St) (H:Hp) (Q:Bool->Hp->Prop),Inv X pins σ H s->t σ H Q->
  wpAny (model X.prog X.w) X.A (forIn ifs true fun c r=>if r=true then do let ok <- isTrue c X.env (eval c X.env);pure (ForInStep.yield ok) else pure (ForInStep.yield r)) (TP X pins σ Q) X.xe s
def oX:TT:=fun _ H Q=>Q true H
structure CompSc(X:Cx)(scope:Scope)(cns:List Str)(ci:List Nat):Prop where
 kind:scope.kind=.function
 cell:∀y∈scope.names,y.2≠.cell
 names:∀y∈scope.names,y.2=.local->scope.names.lookup y.1=some .local
 free:∀y∈scope.names,y.2=.free->X.env.kindOf y.1=some .cell\/X.env.kindOf y.1=some .free
 cap:∀(j:Nat)x,cns[j]?=some x->∃i,ci[j]?=some i/\X.N[i]?=some x/\(x,NameKind.free)∈scope.names
 len:cns.length=ci.length
 noloc:∀y,(y,NameKind.free)∈scope.names->¬(relabel scope X.env).names.lookup y=some .local
theorem cN{env:Env}:∀{names:List (Str×NameKind)} {y:Str} {k:NameKind},(names.map fun (n,k)=>if (k==NameKind.free&&env.scope.kind==.function&&env.kindOf n==some .cell) then (n,NameKind.cell) else (n,k)).lookup y=some k->k=.cell\/k=.free->
  (∀z∈names,z.2≠.cell)->(y,NameKind.free)∈names
 | [],_,_,h,_,_=>by simp at h
 | (n,k0)::r,y,k,h,hk,hc=>by
  rw [dX,v3] at h
  by_cases hf:(k0==NameKind.free&&env.scope.kind==.function&&env.kindOf n==some .cell)=true
  ·simp only [hf,if_true] at h;have k0f:k0=.free:=by have:=hf;simp only [Bool.and_eq_true] at this;simpa using this.1.1
   split at h
   ·next hq=>
    have:y=n:=by simpa using hq
    subst this;subst k0f;exact bV
   ·exact bH _ (cN h hk fun z hz=>hc z (bH _ hz))
  ·simp only [hf] at h
   split at h
   ·next hq=>
    have:y=n:=by simpa using hq
    subst this;have e:k0=k:=by simpa using h
    subst e;rcases hk with z | z
    ·exact absurd z (hc _ bV)
    ·subst z;exact bV
   ·exact bH _ (cN h hk fun z hz=>hc z (bH _ hz))
section
variable {prog:Program} {w:World} {A:Around} {R:Result->Shared->Prop} {s:Shared}
theorem iZ{elt target iter:Expr}{ifs:List Expr}{scope:Scope}{pos:Pos}{it acc:Value}{env:Env}(I:Nat->Shared->Prop)
  (turn:∀n s,I n s->wpAny (model prog w) A (pyNext it) (fun r s₁=>match r with
   |none=>R (.ok .next) s₁
   |some v=>wpAny (model prog w) A (letOwnedTupleGo target it v) (fun _ s₅=>wpAny (model prog w) A (assign target env v) (fun _ s₂=>
     wpAny (model prog w) A (forIn ifs true fun c r=>if r=true then do let ok <- isTrue c env (eval c env);pure (ForInStep.yield ok) else pure (ForInStep.yield r)) (fun ok s₃=>
      if ok=true then wpAny (model prog w) A (eval elt env) (fun x s₄=>wpAny (model prog w) A (call (.builtin "list.append") [acc,x]) (fun _ s₅=>∃m,m<n/\I m s₅) (fun _ _=>False) s₄) (fun _ _=>False) s₃
      else ∃m,m<n/\I m s₃) (fun _ _=>False) s₂) (fun _ _=>False) s₅) (fun _ _=>False) s₁) (fun _ _=>False) s)
  (n:Nat) (h:I n s) :
  codeAny (model prog w) A (.compLoop (.ListComp elt [⟨target,iter,ifs,0⟩] scope pos) 0 it acc env) R s:=by
 refine codeAny_loop rfl I (fun n s hI=>?_) n h;show wpAny _ _ ((compTurn (.ListComp elt [⟨target,iter,ifs,0⟩] scope pos) 0 it acc env).onRaise (fun x=>do noteFrame x env;theTreesLotGoes x)) _ _ s;refine wpAny_noted ?_;rw [compTurn_list];refine zq7 (wpAny_standAt (zq7 (fO (turn n s hI) (fun r s₁ h₁=>?_) fun _ _ h'=>h'.elim)))
 cases r with
 |none=>exact cu h₁
 |some v=>
  refine zq7 (fO h₁ (fun _ s₅ h₅=>?_) fun _ _ h'=>h'.elim);refine zq7 (fO h₅ (fun _ s₂ h₂=>zq7 (fO h₂ (fun ok s₃ h₃=>?_) fun _ _ h'=>h'.elim)) fun _ _ h'=>h'.elim)
  cases ok with
  |true=>
   rw [zq1 rfl] at h₃;exact zq7 (zq7 (fO h₃ (fun x s₃ h₃=>zq7 (fO h₃ (fun _ s₄ h₄=>cu (cu ⟨rfl,h₄⟩)) fun _ _ h'=>h'.elim)) fun _ _ h'=>h'.elim))
  |false=>rw [zq0 zq8] at h₃;exact zq7 (cu (cu ⟨rfl,h₃⟩))
end
theorem ip{X:Cx}{elt iter tgt:Expr}{ifs:List Expr}{pos:Pos}{scope:Scope}{g:Bk->TG}{tt:Bk->TT}{te:Bk->TE}{tns cns:List Str}{ci:List Nat}{RR:Value->Addr->Result->Shared->Prop}{E:Value->Shared->Prop}
  {pins:List (Addr×Obj)} {σ:St} {H2:Hp} {s2:Shared} {it:Addr} {fp:List Addr} {tn:Nat->Heap->Prop} {J:It} {Q:Addr->Hp->Prop}
  (hc:X.calm=true) (S:CompSc X scope cns ci)
  (hg:∀bk:Bk,PG (X.blk (".0"::(tns++cns)) scope bk) tgt (g bk))
  (ht:∀bk:Bk,tD (X.blk (".0"::(tns++cns)) scope bk) ifs (tt bk))
  (he:∀bk:Bk,PE (X.blk (".0"::(tns++cns)) scope bk) elt (te bk))
  (I2:Inv X pins σ H2 s2) (T:nQ X.prog X.w X.K tgt J fp it tn) (st2:tn 0 s2.heap) (f2:∀b∈fp,iV X pins H2 b)
  (hcw:∀acc,H2 acc=none->∀bk:Bk,cg J (g bk) (tt bk) (te bk) tns.length ci σ acc (Q acc) (upd H2 acc (.lst [])))
  (fin:∀D C s5 H4 m,Inv X pins σ H4 s5->s5.heap.Ns C m->iV X pins H4 C->Q D H4->RR (.ref D) C (.ok .next) s5) :
  wpAny (model X.prog X.w) X.A (newList []) (fun acc s₃=>wpAny (model X.prog X.w) X.A (newFunctionEnv scope X.env.globals (dg X.env.cells scope.names []) [] X.env.qual none .none (some X.env)) (fun cenv s₄=>codeAny (model X.prog X.w) X.A (.compStart (.ListComp elt [⟨tgt,iter,ifs,0⟩] scope pos) 0 (.ref it) acc {cenv with scope:=relabel scope X.env}) (RR acc cenv.locals) s₄) E s₃) E s2:=by
 have hfc:∀y∈scope.names,y.2=.free->∃c,X.env.cells.lookup y.1=some c:=fun y hy hk=>I2.ok.has _ (S.free y hy hk);have hsub:∀y c,(dg X.env.cells scope.names []).lookup y=some c->X.env.cells.lookup y=some c:=gB hfc (fun y c e=>by simp at e);refine wpAny_newObj_type (wpAny_newFunctionEnv S.cell (by intro y hy;simp at hy) (fun h₁ hns₁ hsb₁=>?_) S.kind);dsimp only at hns₁ hsb₁ ⊢;generalize hH2:s2.heap.push {cls:=.type "list",dict:=none,data:=.seq ([]:List Value).toArray}=G2 at hns₁ hsb₁ ⊢;have hCz:G2.objs.size=s2.heap.objs.size+1:=by rw [<- hH2,uY]
 have hDC:s2.heap.objs.size≠G2.objs.size:=by rw [hCz];exact cZ (uZ _)
 have below:∀b,b<s2.heap.objs.size->b≠G2.objs.size:=fun b hb=>by omega
 have old:∀b o,s2.heap.get? b=some o->h₁.get? b=some o:=fun b o e=>hsb₁.extBut b o (below b (bP e)) (cz _ (hH2 ▸ cz _ e));have hacc:h₁.get? s2.heap.objs.size=some {cls:=.type "list",dict:=none,data:=.seq ([]:List Value).toArray}:=hsb₁.extBut _ _ hDC (cz _ (hH2 ▸ er _ rfl));have hnD:H2 s2.heap.objs.size=none:=I2.hok.fresh (zq9 _);have hnC:H2 G2.objs.size=none:=I2.hok.fresh Jn;obtain ⟨W,⟨m0,w0⟩,turn⟩:=hcw s2.heap.objs.size hnD ⟨G2.objs.size,fp,s2,H2⟩;have nlt:∀{b:Addr} {o:Obj},s2.heap.get? b=some o->b≠s2.heap.objs.size:=fun q=>cZ (bP q);have fpl:∀b∈fp,b<s2.heap.objs.size:=fun b hb=>by obtain ⟨o,e,_⟩:=T.obj _ _ st2 b hb;exact bP e
 have clt:∀y c,(dg X.env.cells scope.names []).lookup y=some c->c<s2.heap.objs.size:=fun y c e=>by obtain ⟨v,q⟩:=I2.cell y c (hsub y c e);exact q.lt
 have hasC:∀y,((relabel scope X.env).names.lookup y=some .cell\/(relabel scope X.env).names.lookup y=some .free)->∃c,(dg X.env.cells scope.names []).lookup y=some c:=fun y hk=>by
  rcases hk with z | z
  ·exact dM (cN z (.inl rfl) S.cell)
  ·exact dM (cN z (.inr rfl) S.cell)
 have ok:(X.blk (".0"::(tns++cns)) scope ⟨G2.objs.size,fp,s2,H2⟩).Ok:={
  mod:=I2.ok.mod
  kind:=S.kind
  glob:=I2.ok.glob
  blt:=I2.ok.blt
  above:=by show s2.heap.objs.size<=G2.objs.size;omega
  inj:=fun y z c e1 e2=>I2.ok.inj y z c (hsub y c e1) (hsub z c e2)
  has:=fun y hk=>hasC y hk
  cab:=fun y c e=>by
   have e':(false=true):=e
   cases e'
  hd:=I2.ok.hd
  frames:=I2.ok.frames
  stk:=.inl rfl
  exf:=fun b hb=>⟨below b (fpl b hb),fun y c e=>(f2 b hb).2.2.2.2.1 y c (hsub y c e)⟩
  bs:=I2.bs
  bsz:=gf I2.ok.bsz I2.sz
  noex:=fun b o e hb=>by
   rcases (f2 b hb).2.2.2.1 with z | z
   ·exact I2.ok.noex b o e z
   ·exact absurd (el (bP e) (gf I2.ok.bsz z)) (me _)
  exfs:=fun b hb hf=>by
   rcases zq4.mp (I2.stkSub b hf) with z | z
   ·exact (f2 b hb).2.1 z
   ·exact (f2 b hb).2.2.1 z
  funs:=I2.stack
  frf:=I2.stkFree}
 have hokD:HOk X.prog X.w (upd H2 s2.heap.objs.size (.lst [])) h₁:=I2.hok.laid old (zq9 _) ⟨eC _,zAE ([]) 0 .nil hacc⟩;have clD:∀y c,(dg X.env.cells scope.names []).lookup y=some c->c≠s2.heap.objs.size:=fun y c e=>cZ (clt y c e);have I3:Inv (X.blk (".0"::(tns++cns)) scope ⟨G2.objs.size,fp,s2,H2⟩) [] (b8 (List.replicate tns.length none) ci σ) (upd H2 s2.heap.objs.size (.lst [])) {s2 with heap:=h₁,toks:=s2.toks+([]:List (Str×Value)).length}:={
  ok:=ok
  os:=rfl
  bare:=I2.bare
  base:=⟨fun b o e n _ _=>old b o e,fun b o e n _ _=>⟨o.slots,old b o e⟩,fun b o e n _=>by rw [aE (nlt e)];exact n,fun b o e _=>⟨o,old b o e⟩,
   fun b ys e=>by rw [aE (aA e hnD)];exact e,fun b o u e=>by rw [aE (aA e hnD)];exact e,fun b ps e=>⟨#[],by rw [aE (aA e hnD),Array.append_empty];exact e⟩⟩
  loc:=⟨_,hns₁,fun i y v e1 e2 e3=>by
   have e1':((".0":Str)::(tns++cns))[i]?=some y:=e1;unfold b8 at e2
   cases i with
   |zero=>simp at e2
   |succ i=>
    rw [wB] at e1' e2
    by_cases hi:i<tns.length
    ·rw [wz (by simpa using hi),wy,zq1 hi] at e2
     cases e2
    ·rw [zb Jn] at e1';rw [zb (by simp;omega),wA] at e2;obtain ⟨q,hq,hN,hm⟩:=S.cap _ _ e1';rw [cA,hq] at e2;have e2':(σ[q]?).join=some v:=by simpa using e2
     have e4:σ[q]?=some (some v):=by
      cases z:σ[q]? with
      |none=>rw [z] at e2';cases e2'
      |some o=>rw [z] at e2';rw [show o=some v from e2']
     obtain ⟨m,hns,hl⟩:=I2.loc;have hvis:Vis X.env.scope y:=by
      rcases S.free (y,.free) hm rfl with z | z
      ·exact .inr (.inl z)
      ·exact .inr (.inr z)
     obtain ⟨u,ru,lk⟩:=hl q y v hN e4 hvis;refine zn u ru (.inr ?_);have hkk:X.env.kindOf y=some .cell\/X.env.kindOf y=some .free:=S.free (y,.free) hm rfl;rcases lk with ⟨k1,_⟩ | ⟨_,c,hc1,hc2⟩
     ·rcases hkk with z | z<;>(rw [k1] at z;cases z)
     ·obtain ⟨c',hc'⟩:=dM (cells:=X.env.cells) (acc:=[]) hm;have ecc:c'=c:=by have:=hsub y c' hc';rw [hc1] at this;cases this;rfl
      subst ecc;have e3':Vis (relabel scope X.env) y:=e3;refine ⟨?_,zn c' hc' ?_⟩
      ·rcases e3' with z | z | z
       ·exfalso;exact S.noloc y hm z
       ·exact .inl z
       ·exact .inr z
      ·exact hc2.keeps old⟩
  cell:=fun y c e=>by obtain ⟨v,q⟩:=I2.cell y c (hsub y c e);exact ⟨v,q.keeps old⟩
  free:=by show upd H2 s2.heap.objs.size (.lst []) G2.objs.size=none;rw [aE (Ne.symm hDC)];exact hnC
  freeC:=fun y c e=>by rw [aE (clD y c e)];exact I2.freeC y c (hsub y c e)
  pin:=fun p hp=>by have hp':p∈([]:List (Addr×Obj))++[]:=hp;simp at hp'
  hok:=hokD
  len:=by show (b8 _ ci σ).length=((".0":Str)::(tns++cns)).length;unfold b8;simp [S.len]}
 have st3:tn 0 h₁:=T.keep _ _ _ st2 fun b _ o e=>old b o e;have fr3:∀b∈fp,upd H2 s2.heap.objs.size (.lst []) b=none:=fun b hb=>by rw [aE (cZ (fpl b hb))];exact (f2 b hb).1
 have stat:∀{H':Hp},(∀b∈fp,H' b=none)->∀b∈fp,iV (X.blk (".0"::(tns++cns)) scope ⟨G2.objs.size,fp,s2,H2⟩) [] H' b:=fun hn b hb=>zAP (hn b hb) (below b (fpl b hb)) (ok.exfs b hb) (.inl hb) (fun y c e=>(f2 b hb).2.2.2.2.1 y c (hsub y c e)) (fun p hp=>by have hp':p∈([]:List (Addr×Obj))++[]:=hp;simp at hp')
 have loop:∀s₃:Shared,s₃={s2 with heap:=h₁,toks:=s2.toks+([]:List (Str×Value)).length}->
   codeAny (model X.prog X.w) X.A (.compLoop (.ListComp elt [⟨tgt,iter,ifs,0⟩] scope pos) 0 (.ref it) (.ref s2.heap.objs.size) (compEnvC scope (dg X.env.cells scope.names []) G2.objs.size X.env))
    (RR (.ref s2.heap.objs.size) G2.objs.size) s₃:=by
  rintro s₃ rfl;refine iZ (fun n s'=>∃(i:Nat)(os:List (Option V)) (ys:List V) (H':Hp),os.length=tns.length/\Inv (X.blk (".0"::(tns++cns)) scope ⟨G2.objs.size,fp,s2,H2⟩) [] (b8 os ci σ) H' s'/\tn i s'.heap/\(∀b∈fp,H' b=none)/\W i n ys H') ?_ m0 (zAS 0 _ ([]) _ Jo I3 st3 fr3 w0);rintro n s4 ⟨i,os,ys,H4,hos,I4,st4,fr4,w4⟩;rcases turn i n ys H4 w4 with ⟨stop,q⟩ | ⟨go,N,hN,step⟩
  ·refine thn (T.done (X.blk (".0"::(tns++cns)) scope ⟨G2.objs.size,fp,s2,H2⟩) rfl rfl rfl hc i [] s4 _ H4 (fun _ _=>False) I4 (stat fr4) st4 stop) fun r s5 ⟨hr,I5⟩=>?_;subst hr;obtain ⟨m,hm,_⟩:=I5.loc;have fC:H4 G2.objs.size=none:=I5.free;have ub:Un (frs X.stack) fp H2 H4 s2.heap s5.heap:=I5.base;have IX:Inv X pins σ H4 s5:=I2.call' (s':=s5) (show s5.os=s2.os from I5.os) ub I5.hok I5.bare fun b hb=>zAG (f2 b hb).2.2.2.1 (f2 b hb).2.1 (f2 b hb).2.2.2.2.1 (f2 b hb).2.2.2.2.2
   exact fin _ _ s5 H4 m IX hm (I2.fpOk Jn fC) q
  ·refine thn (T.item (X.blk (".0"::(tns++cns)) scope ⟨G2.objs.size,fp,s2,H2⟩) rfl rfl rfl hc i [] s4 _ H4 (fun _ _=>False) I4 (stat fr4) st4 go) fun r s5 ⟨u,hr,h5⟩=>?_;subst hr;refine thn h5 fun _ s6 hhx=>?_;obtain ⟨y,H6,I6,r6,y6,st6,fr6⟩:=hhx;have I6':=I6.pinned (stat fr6) (T.obj _ _ st6);refine thn (hg _ _ s6 _ H6 y u _ I6' r6 (step y H6 os hos y6)) fun _ s7 ⟨σ7,H7,I7,⟨os',hos',e7⟩,q7⟩=>?_;subst e7;have back:∀{H9:Hp} {s9:Shared},Inv (X.blk (".0"::(tns++cns)) scope ⟨G2.objs.size,fp,s2,H2⟩) ([]++fH fp s6.heap) (b8 os' ci σ) H9 s9->tn (i+1) s9.heap/\∀b∈fp,H9 b=none:=fun {H9 s9} I9=>⟨T.keep _ _ _ st6 fun b hb ob e=>(I9.pin (b,ob) (d8 _ (d8 _ (cV hb e)))).1,fun b hb=>by obtain ⟨ob,e,d⟩:=T.obj _ _ st6 b hb;exact (I9.pin (b,ob) (d8 _ (d8 _ (cV hb e)))).2.1⟩
   refine thn (ht _ _ s7 _ H7 _ I7 q7) fun b s8 hhx=>?_;obtain ⟨H8,I8,q8⟩:=hhx
   cases b with
   |false=>
    rw [zq0 zq8] at q8 ⊢;obtain ⟨m',hm',w8⟩:=hN _ _ q8;exact zn m' hm' (zAS (i+1) os' ys _ hos' I8.unpinned (back I8).1 (back I8).2 w8)
   |true=>rw [zq1 rfl] at q8 ⊢;refine thn (he _ _ s8 _ H8 _ I8 q8) fun zv s8 hhx=>?_;obtain ⟨z,H8,I8,rz,ha8,hl8,n8⟩:=hhx;obtain ⟨m',hm',w8⟩:=hN _ _ n8;refine thn (bo (X:=X.blk (".0"::(tns++cns)) scope ⟨G2.objs.size,fp,s2,H2⟩) _ s8 _ H8 (.ref s2.heap.objs.size) [z] (.ref s2.heap.objs.size) [zv] (fun _ H9=>H9=upd H8 s2.heap.objs.size (.lst (ys++[z]))) I8 rfl (.cons rz .nil) (zAQ _ ys z rfl rfl ha8 hl8 rfl)) fun _ s9 hhx=>?_;obtain ⟨_,H9,I9,_,e9⟩:=hhx;subst e9;exact zn m' hm' (zAS (i+1) os' (ys++[z]) _ hos' I9.unpinned (back I9).1 (back I9).2 w8)
 exact codeAny_compStart_list (loop _ rfl) (T.self _ 0 _ _ _ st3 (loop _ rfl))
theorem rb{X:Cx}{elt iter tgt:Expr}{ifs:List Expr}{pos:Pos}{scope:Scope}{wi:TI}{g:Bk->TG}{tt:Bk->TT}{te:Bk->TE}{tns cns:List Str}{ci:List Nat}(hc:X.calm=true)(S:CompSc X scope cns ci)(hi:PI X tgt iter wi)
  (hg:∀bk:Bk,PG (X.blk (".0"::(tns++cns)) scope bk) tgt (g bk))
  (ht:∀bk:Bk,tD (X.blk (".0"::(tns++cns)) scope bk) ifs (tt bk))
  (he:∀bk:Bk,PE (X.blk (".0"::(tns++cns)) scope bk) elt (te bk))
  (hs:∀v,foldedSetIterable iter X.env v=pure v:=by intro _;rfl) :
  PE X (.ListComp elt [⟨tgt,iter,ifs,0⟩] scope pos) (lY wi g tt te tns.length ci):=by
 intro pins s σ H Q I h;have hfc:∀y∈scope.names,y.2=.free->∃c,X.env.cells.lookup y.1=some c:=fun y hy hk=>I.ok.has _ (S.free y hy hk);rw [eval_ListComp];refine wpAny_comprehension_free (use:=none) rfl hs (eF hfc) S.kind S.names (thn (hi pins s σ H _ I h) fun v s1 h1=>thn h1 fun itv s2 h2=>?_);obtain ⟨it,fp,tn,J,H2,rfl,I2,T,st2,f2,hcw⟩:=h2;refine ip (RR:=fun acc C=>compPost (model X.prog X.w) X.A X.xe none (EP X pins σ Q) acc C) hc S hg ht he I2 T st2 f2 hcw fun D C s5 H4 m I5 hm fo q=>?_;refine zn m hm fun h' hs'=>zAA (.ref D) H4 ?_ rfl q;exact I5.turned (t':=s5.toks) (it:=C) (fun b o hb e=>(hs'.2 b hb).trans e) fo.1 fo.2.1 fo.2.2.2.1 fo.2.2.2.2.1 fo.2.2.2.2.2
def gY(i:Nat)(wi:TI)(g:Bk->TG)(tt:Bk->TT)(te:Bk->TE)(nt:Nat)(ci:List Nat):TS:=fun D σ H=>wi σ H fun J H1=>∀acc,H1 acc=none->∀bk:Bk,cg J (g bk) (tt bk) (te bk) nt ci σ acc (fun H'=>D.nx (σ.set i (some (.ref acc))) H') (upd H1 acc (.lst []))
theorem lQ{X:Cx}{i:Nat}{x:Str}{px pos':Pos}{elt iter tgt:Expr}{ifs:List Expr}{pos:Pos}{scope:Scope}{wi:TI}{g:Bk->TG}{tt:Bk->TT}{te:Bk->TE}{tns cns:List Str}{ci:List Nat}
  (hN:X.N.Nodup) (hx:X.N[i]?=some x) (hl:Loc X.env.scope x) (hf:X.fn x=true) (hsw:swapsWith (.ListComp elt [⟨tgt,iter,ifs,0⟩] scope pos) (some (.Name x px)) pos'.line X.env=pure true)
  (hc:X.calm=true) (S:CompSc X scope cns ci) (hi:PI X tgt iter wi)
  (hg:∀bk:Bk,PG (X.blk (".0"::(tns++cns)) scope bk) tgt (g bk))
  (ht:∀bk:Bk,tD (X.blk (".0"::(tns++cns)) scope bk) ifs (tt bk))
  (he:∀bk:Bk,PE (X.blk (".0"::(tns++cns)) scope bk) elt (te bk))
  (hs:∀v,foldedSetIterable iter X.env v=pure v:=by intro _;rfl) :
  PS X (.Assign [.Name x px] (.ListComp elt [⟨tgt,iter,ifs,0⟩] scope pos) pos') (gY i wi g tt te tns.length ci):=by
 intro pins s σ H D I h;have hfc:∀y∈scope.names,y.2=.free->∃c,X.env.cells.lookup y.1=some c:=fun y hy hk=>I.ok.has _ (S.free y hy hk);rw [exec_Assign_Name_used _ _ _ _ hsw];refine zq7 (wpAny_standAt (zq7 ?_));show wpAny _ _ (do let _ <- comprehension (.ListComp elt [⟨tgt,iter,ifs,0⟩] scope pos) scope X.env _ (newList []) false (eval iter X.env) (some (assign (.Name x px) X.env))) _ _ s;refine zq7 (fO (wpAny_comprehension_free (use:=some (assign (.Name x px) X.env)) (Q:=fun _ s'=>SP X pins D .next s') rfl hs (eF hfc) S.kind S.names
  (thn (hi pins s σ H _ I h) fun v s1 h1=>thn h1 fun itv s2 h2=>?_)) (fun _ s' hq=>cu (cu hq)) fun _ _ e=>e)
 obtain ⟨it,fp,tn,J,H2,rfl,I2,T,st2,f2,hcw⟩:=h2;refine ip (RR:=fun acc C=>compPost (model X.prog X.w) X.A X.xe (some (assign (.Name x px) X.env)) (fun _ s'=>SP X pins D .next s') acc C) hc S hg ht he I2 T st2 f2 hcw fun D' C s5 H4 m I5 hm fo q=>?_;obtain ⟨o,es,ep,ho,hd,hr⟩:=id hm;have IP:Inv X (pins++fH [C] s5.heap) σ H4 s5:=I5.pinned (fp:=[C]) (fun b hb=>by rw [zq15.mp hb];exact fo) fun b hb=>by rw [zq15.mp hb];exact zn o ho (fun v z=>by rw [hd] at z;cases z)
 show wpAny _ _ (assign (.Name x px) X.env (.ref D')) _ _ s5;refine thn (ni (X:=X) (i:=i) hN hx hl (.inl hf) _ s5 σ H4 (.ref D') (.ref D') (fun σ' H'=>σ'=σ.set i (some (.ref D'))/\H'=H4) IP rfl ⟨rfl,rfl⟩) fun _ s6 hhx=>?_;obtain ⟨σ6,H6,I6,e1,e2⟩:=hhx;subst e1 e2;have hC6:s6.heap.get? C=some o:=(I6.pin (C,o) (d8 _ (d8 _ (cV (zq15.mpr rfl) ho)))).1;refine zn m (zAU o es ep hC6 hd hr) fun h' hs'=>zAE _ _ ?_ q;exact I6.unpinned.turned (t':=s6.toks) (it:=C) (fun b o hb e=>(hs'.2 b hb).trans e) fo.1 fo.2.1 fo.2.2.2.1 fo.2.2.2.2.1 fo.2.2.2.2.2
def yx(scope osc:Scope):List (Str×NameKind):=scope.names.map fun (n,k)=>if (k==NameKind.free&&osc.kind==.function&&osc.names.lookup n==some .cell) then (n,NameKind.cell) else (n,k)
def il(N:List Str)(names:List (Str×NameKind)):List Str->List Nat->Bool
 | [],[]=>true
 |x::xs,i::is=>N[i]?==some x&&names.any (fun y=>y.1==x&&y.2==.free)&&il N names xs is
 |_,_=>false
def zi(osc:Scope)(N:List Str)(scope:Scope)(cns:List Str)(ci:List Nat):Bool:=
 scope.kind==.function&&scope.names.all (fun y=>y.2 != .cell)&&scope.names.all (fun y=>y.2 != .local || scope.names.lookup y.1==some .local) &&
 scope.names.all (fun y=>y.2 != .free || (osc.names.lookup y.1==some .cell || osc.names.lookup y.1==some .free))&&il N scope.names cns ci &&
 scope.names.all (fun y=>y.2 != .free || (yx scope osc).lookup y.1 != some .local)
theorem io{N:List Str}{names:List (Str×NameKind)}:∀{cns:List Str} {ci:List Nat},il N names cns ci=true->cns.length=ci.length/\∀(j:Nat)x,cns[j]?=some x->∃i,ci[j]?=some i/\N[i]?=some x/\(x,NameKind.free)∈names
 | [],[],_=>⟨rfl,fun j x e=>by simp at e⟩
 | [],_::_,h=>by simp [il] at h
 |_::_,[],h=>by simp [il] at h
 |x::xs,i::is,h=>by
  unfold il at h;rw [eD,eD] at h;obtain ⟨⟨h1,h2⟩,h3⟩:=h;obtain ⟨l,r⟩:=io h3;refine ⟨by simp [l],fun j y e=>?_⟩
  cases j with
  |zero=>
   have e':x=y:=by simpa using e
   subst e';refine zAD i Jo (by simpa using h1) ?_;obtain ⟨z,hz,hq⟩:=List.any_eq_true.mp h2;rw [eD] at hq;obtain ⟨a,b⟩:=z;have e1:a=x:=by simpa using hq.1
   have e2:b=.free:=by simpa using hq.2
   subst e1 e2;exact hz
  |succ j=>obtain ⟨k,hk⟩:=r j y (by simpa using e);exact zn k (by simpa using hk.1) hk.2
theorem CompSc.of{X:Cx}{scope:Scope}{cns:List Str}{ci:List Nat}(h:zi X.env.scope X.N scope cns ci=true):CompSc X scope cns ci:=by
 unfold zi at h;rw [eD,eD,eD,eD,eD] at h;obtain ⟨⟨⟨⟨⟨h1,h2⟩,h3⟩,h4⟩,h5⟩,h6⟩:=h;obtain ⟨l,r⟩:=io h5;refine ⟨by simpa using h1,fun y hy=>?_,fun y hy hk=>?_,fun y hy hk=>?_,r,l,fun y hy z=>?_⟩
 ·simpa using zq32.mp h2 y hy
 ·have:=zq32.mp h3 y hy;rw [v4] at this;rcases this with q | q
  ·exact absurd hk (by simpa using q)
  ·simpa using q
 ·have:=zq32.mp h4 y hy;rw [v4,v4] at this;rcases this with q | q | q
  ·exact absurd hk (by simpa using q)
  ·exact .inl (show X.env.scope.names.lookup y.1=_ by simpa using q)
  ·exact .inr (show X.env.scope.names.lookup y.1=_ by simpa using q)
 ·have:=zq32.mp h6 _ hy;rw [v4] at this;rcases this with q | q
  ·simp at q
  ·have z':(yx scope X.env.scope).lookup y=some .local:=z;have q':((yx scope X.env.scope).lookup y != some .local)=true:=q;rw [z'] at q';exact absurd q' Jm
section
variable {K:W.Frag} {g:TG} {tt:TT} {te:TE} {nt:Nat} {ci:List Nat} {σ:St} {acc:Addr} {Q:Hp->Prop} {H0:Hp}
theorem iY{a:Addr}{xs:List V}(Pv:Nat->List V->Hp->Prop)(h0:Pv 0 [] H0)(hl:∀i ys H,i<=xs.length->Pv i ys H->SqL K H a xs)
  (hs:∀(i:Nat)x ys H os,xs[i]?=some x->os.length=nt->Pv i ys H->g x (b8 os ci σ) H fun σ1 H1=>(∃os',os'.length=nt/\σ1=b8 os' ci σ)/\tt σ1 H1 fun b H2=>if b=true then te σ1 H2 fun z H3=>H3 acc=some (.lst ys)/\ys.length<sizeLine/\Pv (i+1) (ys++[z]) (upd H3 acc (.lst (ys++[z]))) else Pv (i+1) ys H2)
  (hd:∀ys H,Pv xs.length ys H->Q H):cg (Itl K a) g tt te nt ci σ acc Q H0:=by
 refine zn (fun i m ys H=>m=xs.length-i/\i<=xs.length/\Pv i ys H) (zAD xs.length Jo (eC _) h0) ?_;rintro i m ys H ⟨rfl,hi,p⟩;have q:=hl i ys H hi p
 by_cases hlt:i<xs.length
 ·refine .inr ⟨zAE xs (xs[i]) q (by simp [hlt]),zn (Pv (i+1)) (fun ys' H' p'=>zAF (xs.length-(i+1)) Jn rfl hlt p') fun y H' os ho yl=>?_⟩;obtain ⟨rfl,yl⟩:=yl;exact hs i y ys H' os (yl xs q) ho p
 ·have e:i=xs.length:=by omega
  subst e;exact .inl ⟨zn xs q (zq9 _),hd ys H p⟩
theorem qe{lo:Int}{n:Nat}(Pv:Nat->List V->Hp->Prop)(h0:Pv 0 [] H0)
  (hs:∀(i:Nat)ys H os,i<n->os.length=nt->Pv i ys H->g (.int (lo+i)) (b8 os ci σ) H fun σ1 H1=>(∃os',os'.length=nt/\σ1=b8 os' ci σ)/\tt σ1 H1 fun b H2=>if b=true then te σ1 H2 fun z H3=>H3 acc=some (.lst ys)/\ys.length<sizeLine/\Pv (i+1) (ys++[z]) (upd H3 acc (.lst (ys++[z]))) else Pv (i+1) ys H2)
  (hd:∀ys H,Pv n ys H->Q H):cg (Itr lo n) g tt te nt ci σ acc Q H0:=by
 refine zn (fun i m ys H=>m=n-i/\i<=n/\Pv i ys H) (zAD n Jo (eC _) h0) ?_;rintro i m ys H ⟨rfl,hi,p⟩
 by_cases hlt:i<n
 ·refine .inr ⟨hlt,zn (Pv (i+1)) (fun ys' H' p'=>zAF (n-(i+1)) Jn rfl hlt p') fun y H' os ho yl=>?_⟩;obtain ⟨rfl,rfl⟩:=yl;exact hs i ys H' os hlt ho p
 ·have e:i=n:=by omega
  subst e;exact .inl ⟨zq9 _,hd ys H p⟩
end
end L2
namespace L2
section
variable {X:Cx}
end
section
variable {H:Hp} {Q:VK} {σ:St} {D:cG} {K:W.Frag}
theorem uA{wi:TI}{g:Bk->TG}{tt:Bk->TT}{te:Bk->TE}{nt:Nat}{ci:List Nat}:lY wi g tt te nt ci σ H Q=wi σ H fun J H1=>∀acc,H1 acc=none->∀bk:Bk,cg J (g bk) (tt bk) (te bk) nt ci σ acc (fun H'=>Q (.ref acc) H') (upd H1 acc (.lst [])):=rfl
theorem oS{i:Nat}{wi:TI}{g:Bk->TG}{tt:Bk->TT}{te:Bk->TE}{nt:Nat}{ci:List Nat}:gY i wi g tt te nt ci D σ H=wi σ H fun J H1=>∀acc,H1 acc=none->∀bk:Bk,cg J (g bk) (tt bk) (te bk) nt ci σ acc (fun H'=>D.nx (σ.set i (some (.ref acc))) H') (upd H1 acc (.lst [])):=rfl
theorem Ar{Q:Bool->Hp->Prop}:oX σ H Q=Q true H:=rfl
end
end L2
namespace L2
variable {p:Addr} {x:V}
section
variable {H:Hp} {Q:VK} {σ:St} {D:cG} {K:W.Frag}
theorem A9:rIn K false x (.ref p) H Q=∃xs,(SqL K H p xs\/SqT K H p xs)/\cU x=true/\xs.all cU=true/\Q (.bl (inV x xs)) H:=propext ⟨by rintro ⟨_,xs,e1,h⟩;cases e1;exact ⟨xs,h⟩,by rintro ⟨xs,h⟩;exact zAE _ xs rfl h⟩
theorem rD:rIn K true x (.ref p) H Q=∃xs,(SqL K H p xs\/SqT K H p xs)/\cU x=true/\xs.all cU=true/\Q (.bl (! inV x xs)) H:=propext ⟨by rintro ⟨_,xs,e1,h⟩;cases e1;exact ⟨xs,h⟩,by rintro ⟨xs,h⟩;exact zAE _ xs rfl h⟩
end
theorem Paired.get{α β:Type}{F:α->β->Prop}:∀{l₁:List α} {l₂:List β} {i:Nat} {a:α},Paired F l₁ l₂->l₁[i]?=some a->∃b,l₂[i]?=some b/\F a b
 |_,_,_,_,.nil,e=>by simp at e
 |_,_,0,_,.cons h _,e=>by simp at e;subst e;exact zn _ rfl h
 |_,_,i+1,a,.cons _ t,e=>by obtain ⟨b,h1,h2⟩:=Paired.get (i:=i) (a:=a) t (by simpa using e);exact zn b (by simpa using h1) h2
theorem Paired.getR{α β:Type}{F:α->β->Prop}:∀{l₁:List α} {l₂:List β} {i:Nat} {b:β},Paired F l₁ l₂->l₂[i]?=some b->∃a,l₁[i]?=some a/\F a b
 |_,_,_,_,.nil,e=>by simp at e
 |_,_,0,_,.cons h _,e=>by simp at e;subst e;exact zn _ rfl h
 |_,_,i+1,b,.cons _ t,e=>by obtain ⟨a,h1,h2⟩:=Paired.getR (i:=i) (b:=b) t (by simpa using e);exact zn a (by simpa using h1) h2
theorem Same.updM{H0 H:Hp}{o:HO}(s:Same H0 H)(h:H0 p=none):Same H0 (L2.upd H p o):=fun b u e=>by rw [aE (aA e h)];exact s b u e
theorem Same.updN{H0 H:Hp}{o:HO}(s:Same H0 H)(h:H p=none):Same H0 (L2.upd H p o):=s.updM (s.free h)
theorem wU{CX:CXT}{P:Program}{w:World}{K:W.Frag}{mg:Str->Option Value}{base:Heap}{N:List Str}{qual:Str}{scope:Scope}{f:Addr}{cd:Value}{A:Around}{outer:List Env}{s:Shared}{H:Hp}{E:XK}:(ek CX P w K mg base N qual scope f cd A outer s H E).K=K:=rfl
theorem z3{X:Cx}{E:Value->Shared->Prop}:(X.wish E).K=X.K:=rfl
theorem zh{X:Cx}{N':List Str}{scope:Scope}{b:Bk}:(X.blk N' scope b).K=X.K:=rfl
theorem xM{o:Option V}{ci:List Nat}{σ:St}:b8 [o] ci σ=none::o::ci.map fun i=>(σ[i]?).join:=rfl
theorem xN{o o':Option V}{ci:List Nat}{σ:St}:b8 [o,o'] ci σ=none::o::o'::ci.map fun i=>(σ[i]?).join:=rfl
theorem cC{n:Str}:∀{ns:List Str},inV (.str n) (ns.map V.str)=decide (n∈ns)
 | []=>by simp [inV]
 |m::ns=>by
  have ih:=cC (n:=n) (ns:=ns);unfold inV at ih ⊢;rw [dX,kL,ih];have e:eqV (.str m) (.str n)=decide (m=n):=by unfold eqV;rfl
  rw [e]
  by_cases h1:m=n
  ·subst h1;simp
  ·have h2:¬n=m:=fun z=>h1 z.symm;simp [h1,h2]
theorem cx:∀{ns:List Str},(ns.map V.str).all cU=true
 | []=>rfl
 |n::ns=>by rw [dX,pE,cx];rfl
section
variable {K:W.Frag} {tt:TT} {te:TE} {ci:List Nat} {σ:St} {acc:Addr} {Q:Hp->Prop} {H1:Hp} {a:Addr} {xs:List V}
theorem oq(p:V->Bool)(f:V->V){x:V}{ys:List V}{H:Hp}{os:List (Option V)}{i:Nat}{Pv:Nat->List V->Hp->Prop}(ho:os.length=1)(hi:xs[i]?=some x)
  (hp:∀Q',Q' (p x) H->tt (b8 [some x] ci σ) H Q') (hf:∀Q',p x=true->Q' (f x) H->te (b8 [some x] ci σ) H Q') (hacc:H acc=some (.lst ys)) (hlen:ys.length<sizeLine)
  (h1:p x=true->Pv (i+1) (ys++[f x]) (upd H acc (.lst (ys++[f x])))) (h2:p x=false->Pv (i+1) ys H) :
  bD 1 x (b8 os ci σ) H fun σ1 H1=>(∃os',os'.length=1/\σ1=b8 os' ci σ)/\tt σ1 H1 fun b H2=>if b=true then te σ1 H2 fun z H3=>H3 acc=some (.lst ys)/\ys.length<sizeLine/\Pv (i+1) (ys++[z]) (upd H3 acc (.lst (ys++[z]))) else Pv (i+1) ys H2:=by
 have e:(b8 os ci σ).set 1 (some x)=b8 [some x] ci σ:=by
  match os,ho with
  | [o],_=>rfl
 show (∃os',os'.length=1/\(b8 os ci σ).set 1 (some x)=b8 os' ci σ)/\tt ((b8 os ci σ).set 1 (some x)) H _;rw [e];refine ⟨zn ([some x]) rfl rfl,hp _ ?_⟩
 cases hb:p x with
 |true=>rw [zq1 rfl];exact hf _ hb (zAB hacc hlen (h1 hb))
 |false=>rw [zq0 zq8];exact h2 hb
theorem dB{p:V->Bool}{f:V->V}{xs:List V}{i:Nat}(hi:xs[i]?=some x):((xs.take (i+1)).filter p).map f=((xs.take i).filter p).map f++(if p x=true then [f x] else []):=by
 obtain ⟨h,e⟩:=zq17.mp hi;rw [fP h,e,List.filter_append,bI];congr 1
 cases hb:p x<;>simp [hb]
theorem qo{p:V->Bool}{f:V->V}{xs:List V}{i:Nat}(hi:xs[i]?=some x)(hz:xs.length<=sizeLine):(((xs.take i).filter p).map f).length<sizeLine:=by obtain ⟨h,e⟩:=zq17.mp hi;rw [zq2];have:=List.length_filter_le p (xs.take i);rw [gh] at this;omega
theorem mF{J:It}(p:V->Bool)(f:V->V)(hz:xs.length<=sizeLine)(hacc:H1 acc=none)
 (hJ:∀(Pv:Nat->List V->Hp->Prop),Pv 0 [] (upd H1 acc (.lst []))->(∀i ys H,Pv i ys H->∃ys',H=upd H1 acc (.lst ys'))->
 (∀(i:Nat)x ys H os,xs[i]?=some x->os.length=1->Pv i ys H->bD 1 x (b8 os ci σ) H fun σ1 H1=>(∃os',os'.length=1/\σ1=b8 os' ci σ)/\tt σ1 H1 fun b H2=>
 if b=true then te σ1 H2 fun z H3=>H3 acc=some (.lst ys)/\ys.length<sizeLine/\Pv (i+1) (ys++[z]) (upd H3 acc (.lst (ys++[z]))) else Pv (i+1) ys H2)->
 (∀ys H,Pv xs.length ys H->Q H)->cg J (bD 1) tt te 1 ci σ acc Q (upd H1 acc (.lst [])))
 (hp:∀x∈xs,∀H Q',Same H1 H->Q' (p x) H->tt (b8 [some x] ci σ) H Q') (hf:∀x∈xs,∀H Q',Same H1 H->p x=true->Q' (f x) H->te (b8 [some x] ci σ) H Q')
 (q:Q (upd H1 acc (.lst ((xs.filter p).map f)))):cg J (bD 1) tt te 1 ci σ acc Q (upd H1 acc (.lst [])):=by
 refine hJ (fun i ys H=>ys=((xs.take i).filter p).map f/\H=upd H1 acc (.lst ys)) ⟨Jo,rfl⟩ (fun i ys H h=>⟨ys,h.2⟩) ?_ ?_
 ·rintro i x ys H os hi ho ⟨rfl,rfl⟩;have hm:=dr hi;refine oq (xs:=xs) (Pv:=fun i ys H=>ys=((xs.take i).filter p).map f/\H=upd H1 acc (.lst ys)) p f ho hi (fun Q' h=>hp x hm _ _ (Same.upd hacc) h) (fun Q' hb h=>hf x hm _ _ (Same.upd hacc) hb h) ae (qo hi hz) (fun hb=>?_) (fun hb=>?_)
  ·rw [dB hi,zq1 hb];exact ⟨rfl,by rw [ej]⟩
  ·rw [dB hi,zq0 (by rw [hb];exact zq8),gg];exact ⟨rfl,rfl⟩
 ·rintro ys H ⟨rfl,rfl⟩;rw [fQ];exact q
theorem qc(p:V->Bool)(f:V->V)(hz:xs.length<=sizeLine)(hl:SqL K H1 a xs)(hacc:H1 acc=none)
  (hp:∀x∈xs,∀H Q',Same H1 H->Q' (p x) H->tt (b8 [some x] ci σ) H Q') (hf:∀x∈xs,∀H Q',Same H1 H->p x=true->Q' (f x) H->te (b8 [some x] ci σ) H Q')
  (q:Q (upd H1 acc (.lst ((xs.filter p).map f)))):cg (Itl K a) (bD 1) tt te 1 ci σ acc Q (upd H1 acc (.lst [])):=
 mF p f hz hacc (fun Pv h0 hH hs hd=>iY Pv h0 (fun i ys H _ h=>by obtain ⟨ys',rfl⟩:=hH i ys H h;exact (Same.upd hacc).seq hl) hs hd) hp hf q
theorem qd{lo:Int}{n:Nat}(p:Int->Bool)(f:Int->V)(hz:n<=sizeLine)(hacc:H1 acc=none)
 (hp:∀i:Nat,i<n->∀H Q',Same H1 H->Q' (p (lo+i)) H->tt (b8 [some (.int (lo+i))] ci σ) H Q') (hf:∀i:Nat,i<n->∀H Q',Same H1 H->p (lo+i)=true->Q' (f (lo+i)) H->te (b8 [some (.int (lo+i))] ci σ) H Q')
 (q:Q (upd H1 acc (.lst (((List.range n).filter fun i:Nat=>p (lo+i)).map fun i:Nat=>f (lo+i))))):cg (Itr lo n) (bD 1) tt te 1 ci σ acc Q (upd H1 acc (.lst [])):=by
 have hx:∀(i:Nat),i<n->((List.range n).map fun k:Nat=>V.int (lo+k))[i]?=some (.int (lo+i)):=fun i hi=>by simp [hi]
 have key:=mF (xs:=(List.range n).map fun k:Nat=>V.int (lo+k)) (J:=Itr lo n) (tt:=tt) (te:=te) (ci:=ci) (σ:=σ) (acc:=acc) (Q:=Q) (H1:=H1)
  (fun x=>match x with | .int i=>p i | _=>false) (fun x=>match x with | .int i=>f i | _=>.non) (by simpa using hz) hacc
  (fun Pv h0 hH hs hd=>qe Pv h0 (fun i ys H os hi ho h=>hs i _ ys H os (hx i hi) ho h) (fun ys H h=>hd ys H (by simpa using h)))
  (fun x hm H Q' sm h=>by obtain ⟨k,hk,rfl⟩:=zq37.mp hm;exact hp k (zq50.mp hk) H Q' sm h)
  (fun x hm H Q' sm hb h=>by obtain ⟨k,hk,rfl⟩:=zq37.mp hm;exact hf k (zq50.mp hk) H Q' sm hb h)
 refine key ?_;have e:(((List.range n).map fun k:Nat=>V.int (lo+k)).filter (fun x=>match x with | .int i=>p i | _=>false)).map (fun x=>match x with | .int i=>f i | _=>.non)=((List.range n).filter fun i:Nat=>p (lo+i)).map fun i:Nat=>f (lo+i):=by rw [List.filter_map,mf];rfl
 rw [e];exact q
end
end L2
end
namespace FB
open PySem L2
inductive Opd where
 |box (n:Str)
 |word (i:Int)
 deriving DecidableEq
def Opd.v:Opd->V
 | .box n=>.str n
 | .word i=>.int i
inductive Deed where
 |tell (a:Opd)
 |copy (d:Str) (a:Opd)
 |op (f d:Str) (a b:Opd)
 deriving DecidableEq
def opsL:List Str:=["plus","less","and","or","xor","below","same"]
def Deed.vs:Deed->List V
 | .tell a=>[.str "tell",a.v]
 | .copy d a=>[.str "copy",.str d,a.v]
 | .op f d a b=>[.str f,.str d,a.v,b.v]
def Deed.fine:Deed->Prop
 | .op f _ _ _=>f∈opsL
 |_=>True
end FB
section
open PySem PySem.Spec PyProof.Rows
namespace L2
section
variable {X:Cx}
end
end L2
namespace L2
variable {H:Hp} {sc:Scope} {σ:St}
section
variable {X:Cx} {x:Str} {p pos:Pos} {e:Expr} {es:List Expr} {t:TA} {id T:String} {r:List V->Hp->VK->Prop}
theorem qv(i:Nat){x:Str}{pos:Pos}(hv:Vis X.env.scope x)(hN:X.N[i]?=some x:=by rfl)(hd:(x==("__debug__":Str))=false:=by kernel_rfl) (hcd:(x==("__classdict__":Str))=false:=by kernel_rfl):PE X (.Name x pos) (yV i):=xA hN hv hd hcd
theorem vl{x:Str}(h:sc.names.lookup x=some .local:=by kernel_rfl):Vis sc x:=.inl h
theorem vc{x:Str}(h:sc.names.lookup x=some .cell:=by kernel_rfl):Vis sc x:=.inr (.inl h)
theorem ll{x:Str}(h:sc.names.lookup x=some .local:=by kernel_rfl):Loc sc x:=.inl h
theorem lc{x:Str}(h:sc.names.lookup x=some .cell:=by kernel_rfl):Loc sc x:=.inr h
theorem gl{X:Cx}{x:Str}(h:X.env.scope.names.lookup x=some .globalImplicit:=by kernel_rfl):Gl X x:=h
theorem ja{x:Str}(h:(x==("__name__":Str))=false:=by kernel_rfl):x≠"__name__":=fun z=>by subst z;exact absurd h Jk
theorem rl{k:Nat}{f:Addr}{fd:FuncData}{ps:List Str}{sp:Sp}{x:Str}{st:Stmt}{p pos:Pos}{e:Expr}{es:List Expr}{t:TA}(D:bf X.K X.mg x st ps f fd)(G:FnOk X.prog X.w X.K X.mg X.base CX0 k f fd ps sp)(hr:Room k X.A)
  (ha:PA X (e::es) t) (hg:Gl X x) (hdb:(x==("__debug__":Str))=false:=by kernel_rfl) (he:starEach (e::es) X.env=(false,eval e X.env)::starEach es X.env:=by rfl) (hpl:(backTo pos (starEach es X.env)).any (·.1)=false:=by rfl) :
  PE X (.Call (.Name x p) (e::es) [] pos) (iN sp [] E0 t):=qZ D G hr ha hg hdb he hpl
def kS:Expr->Option V
 | .Constant (.int i) _ _=>some (.int i)
 | .Constant (.str x) _ _=>some (.str x)
 | .Constant (.bool b) _ _=>some (.bl b)
 | .Constant .none _ _=>some .non
 |_=>none
def gk:List Expr->Option (List V)
 | []=>some []
 |e::es=>(kS e).bind fun v=>(gk es).map fun vs=>v::vs
def tVs(vs:List V):TA:=fun _ H Q=>Q vs H
theorem oa{e:Expr}{v:V}(h:kS e=some v):PE X e (tC v)/\∀es,starEach (e::es) X.env=(false,eval e X.env)::starEach es X.env:=by
 unfold kS at h
 split at h
 ·cases h;exact ⟨rc,fun _=>rfl⟩
 ·cases h;exact ⟨rg,fun _=>rfl⟩
 ·cases h;exact ⟨vo,fun _=>rfl⟩
 ·cases h;exact ⟨rf,fun _=>rfl⟩
 ·cases h
theorem kh:∀{es:List Expr} {vs:List V},gk es=some vs->PA X es (tVs vs)
 | [],_,h=>by cases h;exact qX
 |e::es,vs,h=>by unfold gk at h;obtain ⟨v,h1,h2⟩:=zq114.mp h;obtain ⟨ws,h3,h4⟩:=zq46.mp h2;subst h4;obtain ⟨p1,p2⟩:=oa (X:=X) h1;exact nc p1 (kh h3) (p2 es)
theorem AX{vs:List V}{Z:List V->Hp->Prop}:tVs vs σ H Z=Z vs H:=rfl
theorem uO{z:Str}{K:W.Frag}:tyV K "str" (.str z) H=True:=eq_true (show ("str":String)="str" from rfl)
theorem xY{to ti:TE}{ts:pM}{v:V}{Q:St->Hp->Prop}:wW to ti ts v σ H Q=to σ H fun o H1=>ti σ H1 fun i H2=>ts o i v H2 fun H3=>Q σ H3:=rfl
def yR(t u:TS):TS:=fun D σ H=>∃Mid:St->Hp->Prop,t {D with nx:=Mid} σ H/\∀σ' H',Mid σ' H'->u D σ' H'
theorem rA{ta tb:TS}{D:cG}:yR ta tb D σ H=∃Mid:St->Hp->Prop,ta {D with nx:=Mid} σ H/\∀σ' H',Mid σ' H'->tb D σ' H':=rfl
end
end L2
namespace L2
variable {dx:Addr}
structure KlsAt(K:W.Frag)(mg:Str->Option Value)(x:Str)(C:Addr):Prop where
 cl:Cls K C
 mks:W.makesIn K C=true
 kp:W.keepIn K (.ref C)=true
 M:mg x=some (.ref C)
structure bv(K:W.Frag)(C:Addr)(m qual:Str)(st:Stmt)(ps:List Str)(f:Addr)(fd:FuncData):Prop where
 F:Fun K m qual st f fd
 B:Binds K fd ps []
 M:nP K C m f
theorem KlsAt.make{K:W.Frag}{mg:Str->Option Value}{x qual:Str}{C f:Addr}{st:Stmt}{ps:List Str}{fd:FuncData}(c:KlsAt K mg x C)(m:bv K C "__init__" qual st ps f fd):Mk K C f:=⟨c.mks,m.M.at_,m.M.fn,c.kp⟩
section
variable {X:Cx} {k:Nat} {f C:Addr} {fd:FuncData} {ps:List Str} {sp:Sp} {x m qual:Str} {st:Stmt} {p pos apos:Pos} {e o:Expr} {es:List Expr} {ta:TE} {t:TA}
theorem rm(c:KlsAt X.K X.mg x C)(D:bv X.K C "__init__" qual st ps f fd) (G:FnOk X.prog X.w X.K X.mg X.base CX0 k f fd ps sp) (hr:Room (k+1) X.A)
  (ha:PA X (e::es) t) (hg:Gl X x) (hdb:(x==("__debug__":Str))=false:=by kernel_rfl) (he:starEach (e::es) X.env=(false,eval e X.env)::starEach es X.env:=by rfl) (hpl:(backTo pos (starEach es X.env)).any (·.1)=false:=by rfl) :
  PE X (.Call (.Name x p) (e::es) [] pos) (kF C sp [] E0 t):=uv (c.make D) G hr hg c.M D.B .nil ng ha hdb he hpl
theorem zI{pl:Sem Bool}(c:Cls X.K C)(D:bv X.K C m qual st ps f fd)(G:FnOk X.prog X.w X.K X.mg X.base CX0 k f fd ps sp)(hr:Room k X.A)(he:PE X o ta)(ha:PA X (e::es) t)
  (hst:starEach (e::es) X.env=(false,eval e X.env)::starEach es X.env:=by rfl) (hpl:(backTo pos (starEach es X.env)).any (·.1)=false:=by rfl)
  (ht:eval (.Call (.Attribute o m apos) (e::es) [] pos) X.env=(do
   let ov <- eval o X.env
   standAt apos.atName
   let (f,first) <- holding [ov] (getMethod ov m pl)
   callWith pos f first (backTo pos (starEach (e::es) X.env)) (backToKw pos (keywordEach [] X.env))):=by rfl) :
  PE X (.Call (.Attribute o m apos) (e::es) [] pos) (eK C m sp [] E0 ta t):=jk he c D.M G hr D.B .nil ng ha hst hpl ht
theorem oP{pl:Sem Bool}(c:Cls X.K C)(D:bv X.K C m qual st ps f fd)(G:FnOk X.prog X.w X.K X.mg X.base CX0 k f fd ps sp)(hr:Room k X.A)(he:PE X o ta)
  (ht:eval (.Call (.Attribute o m apos) [] [] pos) X.env=(do
   let ov <- eval o X.env
   standAt apos.atName
   let (f,first) <- holding [ov] (getMethod ov m pl)
   callWith pos f first (backTo pos (starEach [] X.env)) (backToKw pos (keywordEach [] X.env))):=by rfl) :
  PE X (.Call (.Attribute o m apos) [] [] pos) (eK C m sp [] E0 ta m4):=ki he c D.M G hr D.B .nil ng ht
end
section
variable {H:Hp} {Q:VK} {σ:St} {D:cG} {K:W.Frag}
def pL(K:W.Frag)(x:V)(f:Str)(y:V)(H:Hp)(Z:Hp->Prop):Prop:=∃a C dx fs,x=.ref a/\H a=some (.ins C dx fs)/\Cls K C/\NoAttr K C f/\fs.length<1000/\Z (upd H a (.ins C dx (cW f y fs)))
def pK(K:W.Frag)(x:V)(f:Str)(H:Hp)(Q:VK):Prop:=∃a C dx fs v,x=.ref a/\H a=some (.ins C dx fs)/\Cls K C/\NoAttr K C f/\fs.lookup f=some v/\Q v H
def kO(C:Addr)(m:Str)(x:V)(H:Hp)(Z:Prop):Prop:=∃a dx fs,x=.ref a/\H a=some (.ins C dx fs)/\fs.lookup m=none/\Z
def ze(C:Addr)(sp:Sp)(vs:List V)(H:Hp)(Q:VK)(E:XK):Prop:=∀x dx,H x=none->H dx=none->dx≠x->sp (.ref x::vs) (upd (upd H dx (.own x)) x (.ins C dx [])) (fun v H2=>v=.non/\Q (.ref x) H2) E
theorem yv{ta tv:TE}{f:Str}:As K ta tv f D σ H=tv σ H fun y H1=>ta σ H1 fun x H2=>pL K x f y H2 (D.nx σ):=rfl
theorem y7{ta:TE}{f:Str}:Ay K ta f σ H Q=ta σ H fun x H1=>pK K x f H1 Q:=rfl
theorem yp{C:Addr}{m:Str}{sp:Sp}{E:XK}{ta:TE}{t:TA}:eK C m sp [] E ta t σ H Q=ta σ H fun x H1=>kO C m x H1 (t σ H1 fun vs H2=>sp (x::vs) H2 Q E):=by unfold eK kO;simp only [List.append_nil]
theorem yo{C:Addr}{sp:Sp}{E:XK}{t:TA}:kF C sp [] E t σ H Q=t σ H fun vs H1=>ze C sp vs H1 Q E:=by unfold kF ze;simp only [List.append_nil]
theorem fB{p C:Addr}{fs:List (Str×V)}{f:Str}{y:V}{Z:Hp->Prop}(e:H p=some (.ins C dx fs))(c:Cls K C)(n:NoAttr K C f)(l:fs.length<1000)(h:Z (upd H p (.ins C dx (cW f y fs)))):pL K (.ref p) f y H Z:=zAN p C dx fs (zAP rfl e c n l h)
theorem g8{p C:Addr}{fs:List (Str×V)}{f:Str}{v:V}(e:H p=some (.ins C dx fs))(c:Cls K C)(n:NoAttr K C f)(l:fs.lookup f=some v)(h:Q v H):pK K (.ref p) f H Q:=zBE p C dx fs v rfl e c n l h
theorem bi{p C:Addr}{fs:List (Str×V)}{m:Str}{Z:Prop}(e:H p=some (.ins C dx fs))(l:fs.lookup m=none)(h:Z):kO C m (.ref p) H Z:=zAM p dx fs rfl e l h
end
end L2
namespace L2
section
variable {K:W.Frag} {h:Heap} {mg:Str->Option Value}
abbrev fnS (x qual:Str) (st:Stmt) (kV doc pm:Value) (an:Option Addr) (cdv ct:Value):FuncData:=W.fnOf x qual (cM st) (cj st) (az st) .none kV doc pm an cdv ct
abbrev kM (x qual:Str) (st:Stmt) (ps:List Str):Prop:=∀(kV doc pm:Value)(an:Option Addr)(cdv ct:Value)(us:List Value),us.length=ps.length->bindArgs (fnS x qual st kV doc pm an cdv ct) ⟨us,[]⟩=pure (ps.zip us)
theorem ck{x:Str}{st:Stmt}{ps:List Str}{f:Addr}{oc:Value}{od an:Option Addr}{osl:Array (Option Value)}{kV doc pm cdv ct:Value}(X:K.In h)(G:h.Ns mainGlobals mg)(a:W.nsIn K mainGlobals x=some (some (.ref f)))
  (l:K.lookup f=some ⟨oc,od,.func (W.fnOf x x (cM st) (cj st) (az st) .none kV doc pm an cdv ct),osl⟩) (c:W.codeIn K cdv x=true) (k:W.keepIn K (.ref f)=true) (b:kM x x st ps):bf K mg x st ps f (W.fnOf x x (cM st) (cj st) (az st) .none kV doc pm an cdv ct):=
 ⟨j6 l c k,(j6 l c k).binds b,W.mg_of X G a⟩
theorem fG{C:Addr}{x qual:Str}{st:Stmt}{ps:List Str}{f:Addr}{oc:Value}{od an:Option Addr}{osl:Array (Option Value)}{kV doc pm cdv ct:Value}(a:W.findIn K (.ref C) x=some (some (.ref f)))(i:W.isFn K (.ref f)=true)
  (l:K.lookup f=some ⟨oc,od,.func (W.fnOf x qual (cM st) (cj st) (az st) .none kV doc pm an cdv ct),osl⟩) (c:W.codeIn K cdv qual=true) (k:W.keepIn K (.ref f)=true) (b:kM x qual st ps):bv K C x qual st ps f (W.fnOf x qual (cM st) (cj st) (az st) .none kV doc pm an cdv ct):=
 ⟨j6 l c k,(j6 l c k).binds b,⟨a,i,k⟩⟩
theorem zj{x:Str}{C:Addr}(X:K.In h)(G:h.Ns mainGlobals mg)(a:W.nsIn K mainGlobals x=some (some (.ref C)))(h1:W.plainGet K C Str.empty=true)(h2:W.hasDictIn K C=true)(h3:W.plainOver K C=true)
  (h4:W.findIn K (.ref C) "__setattr__"=some (some (.builtin "object.__setattr__"))) (h5:W.makesIn K C=true) (h6:W.keepIn K (.ref C)=true):KlsAt K mg x C:=⟨⟨h1,h2,h3,h4⟩,h5,h6,W.mg_of X G a⟩
end
section
variable {x qual p q r s t u:Str} {st:Stmt}
theorem bn1(h:∀kV doc pm an cdv ct a,bindArgs (fnS x qual st kV doc pm an cdv ct) ⟨[a],[]⟩=pure [(p,a)]):kM x qual st [p]:=fun kV doc pm an cdv ct us hl=>by
 match us,hl with
 | [a],_=>exact h kV doc pm an cdv ct a
theorem bn2(h:∀kV doc pm an cdv ct a b,bindArgs (fnS x qual st kV doc pm an cdv ct) ⟨[a,b],[]⟩=pure [(p,a),(q,b)]):kM x qual st [p,q]:=fun kV doc pm an cdv ct us hl=>by
 match us,hl with
 | [a,b],_=>exact h kV doc pm an cdv ct a b
theorem bn3(h:∀kV doc pm an cdv ct a b c,bindArgs (fnS x qual st kV doc pm an cdv ct) ⟨[a,b,c],[]⟩=pure [(p,a),(q,b),(r,c)]):kM x qual st [p,q,r]:=fun kV doc pm an cdv ct us hl=>by
 match us,hl with
 | [a,b,c],_=>exact h kV doc pm an cdv ct a b c
theorem bn4(h:∀kV doc pm an cdv ct a b c d,bindArgs (fnS x qual st kV doc pm an cdv ct) ⟨[a,b,c,d],[]⟩=pure [(p,a),(q,b),(r,c),(s,d)]):kM x qual st [p,q,r,s]:=fun kV doc pm an cdv ct us hl=>by
 match us,hl with
 | [a,b,c,d],_=>exact h kV doc pm an cdv ct a b c d
theorem bn5(h:∀kV doc pm an cdv ct a b c d e,bindArgs (fnS x qual st kV doc pm an cdv ct) ⟨[a,b,c,d,e],[]⟩=pure [(p,a),(q,b),(r,c),(s,d),(t,e)]):kM x qual st [p,q,r,s,t]:=fun kV doc pm an cdv ct us hl=>by
 match us,hl with
 | [a,b,c,d,e],_=>exact h kV doc pm an cdv ct a b c d e
end
end L2
namespace L2
section
variable {X:Cx}
end
end L2
namespace L2
section
variable {X:Cx}
theorem jJ:∀{bs:List Bool} {its:List Value},Vals (bs.map V.bl) its->its=bs.map Value.bool
 | [],_,.nil=>rfl
 |b::bs,_,.cons h t=>by have e:_=Value.bool b:=h;rw [e,jJ t];rfl
theorem oU{bs:List Bool}:(List.range bs.length).all (fun i=>bs.getD i true)=bs.all id:=by
 rw [kK,zq32,zq32]
 constructor
 ·intro h b hb;obtain ⟨i,hi,rfl⟩:=List.mem_iff_getElem.mp hb;have:=h i (zq50.mpr hi);rw [sW,dI hi] at this;exact this
 ·intro h i hi;have hi:=zq50.mp hi;rw [sW,dI hi];exact h _ (pG hi)
def zJ(K:W.Frag):List V->Hp->VK->Prop:=fun xs H Q=>∃(a:Addr)(bs:List Bool),xs=[.ref a]/\SqL K H a (bs.map V.bl)/\Q (.bl (bs.all id)) H
theorem kG{P:Program}{w:World}{A:Around}{bs:List Bool}:TruthOf P w A (fun i v=>(bs.map Value.bool).toArray[i]?=some v) (fun i=>bs.getD i true):=by intro i v s Q E hv q;rw [wC,cA] at hv;obtain ⟨b,hb,rfl⟩:=zq46.mp hv;replace q:Q (bs.getD i true) s:=q;rw [sW,hb] at q;exact wpAny_truthy_bool q
theorem jK(hc:X.calm=true):cv X (.builtin "all") (zJ X.K):=by
 intro pins s σ H xs us Q I r h;obtain ⟨a,bs,rfl,hq,q⟩:=h;obtain ⟨u,rfl,ru⟩:=dC r
 cases ru
 obtain ⟨its,rv,pl,_⟩:=I.list hq;obtain rfl:=jJ rv;obtain ⟨o,ho,ro⟩:=pl.isList;have W:=Walks.list (prog:=X.prog) (w:=X.w) (A:=X.A.in1) (I.ok.hd hc) s.heap.objs.size a (cZ (bP ho)) (bs.map Value.bool).toArray;refine call_all_walk (wpAny_pyIter_list pl.isList (zAY s.heap.objs.size _ _ _ _ _ (fun i=>bs.getD i true) rfl W ⟨zAD _ (er _ rfl) rfl rfl,pl.isList.push _⟩ kG fun h' tk hk=>?_));have e:(bs.map Value.bool).toArray.size=bs.length:=by simp
 rw [e,oU];exact zAA (.bl _) H (I.kept (t':=tk) fun b ob hb=>hk b ob (fun z=>me _ (by have:=bP hb;rw [zq15.mp z] at this;exact this)) (cz _ hb)) rfl q
end
end L2
namespace L2
open AutoSeq1 (wpAny_loadPart')
section
variable {prog:Program} {w:World} {A:Around} {E:Value->Shared->Prop} {s:Shared}
end
end L2
namespace L2
section
variable {prog:Program} {w:World} {A:Around} {E:Value->Shared->Prop} {s:Shared}
end
end L2
namespace L2
section
variable {g:TG} {tb:TS} {D:cG} {σ:St} {H:Hp}
end
end L2
namespace L2
section
variable {prog:Program} {w:World} {A:Around} {E:Value->Shared->Prop} {s:Shared}
end
end L2
namespace L2
section
variable {X:Cx}
end
end L2
namespace L2
end L2
namespace L2
variable {X:Cx} {apos p pos pos':Pos} {e iter o tg:Expr} {es:List Expr} {f:Addr} {i k:Nat} {ps:List Str} {sp:Sp} {tA:TT} {ta te to:TE} {wi:TI} {x:Str}
structure XE(X:Cx)(e:Expr)(t:TE):Prop where
 h:PE X e t
structure XT(X:Cx)(e:Expr)(t:TT):Prop where
 h:PT X e t
structure XW(X:Cx)(e:Expr)(t:TT):Prop where
 h:PW X e t
structure XA(X:Cx)(es:List Expr)(t:TA):Prop where
 h:PA X es t
structure XS(X:Cx)(st:Stmt)(t:TS):Prop where
 h:PS X st t
structure XSs(X:Cx)(st:List Stmt)(t:TS):Prop where
 h:PSs X st t
structure XG(X:Cx)(target:Expr)(t:TG):Prop where
 h:PG X target t
structure XGs(X:Cx)(ts:List Expr)(t:TGs):Prop where
 h:PGs X ts t
structure XI(X:Cx)(tg iter:Expr)(wi:TI):Prop where
 h:PI X tg iter wi
structure XO(X:Cx)(e:Option Expr)(t:TO):Prop where
 h:PO X e t
structure wK(X:Cx)(ifs:List Expr)(t:TT):Prop where
 h:tD X ifs t
theorem ac{i j pos}:XE X (.Constant (.int i) j pos) (tC (.int i)):=⟨rc⟩
theorem d7{b j pos}:XE X (.Constant (.bool b) j pos) (tC (.bl b)):=⟨vo⟩
theorem jt{j pos}:XE X (.Constant .none j pos) (tC .non):=⟨rf⟩
theorem ao{x j pos}:XE X (.Constant (.str x) j pos) (tC (.str x)):=⟨rg⟩
theorem ak{a b:Expr}{tb:TE}{op:Operator}{r:R2}(ho:OpR X (binaryOp op) r)(ha:XE X a ta)(hb:XE X b tb):XE X (.BinOp a op b pos) (tOp r ta tb):=⟨by intro pins s σ H Q I h;exact wpAny_BinOp (wR ha.h hb.h I h fun v u s2 x y H2 I2 rx ry q=>ho pins s2 σ H2 x y v u Q I2 rx ry q)⟩
theorem cn{a:Expr}{op:UnaryOp}{r:V->Hp->VK->Prop}(ho:UnR X (unaryOp op) r)(ha:XE X a ta):XE X (.UnaryOp op a pos) (tUn r ta):=⟨by intro pins s σ H Q I h;exact UnaryOp_ (thn (ha.h pins s σ H _ I h) fun v s1 ⟨x,H1,I1,r1,q1⟩=>ho pins s1 σ H1 x v Q I1 r1 q1)⟩
theorem cE{a b:Expr}{tb:TE}{op:CmpOp}{r:R2}(ho:OpR X (compareOp op) r)(ha:XE X a ta)(hb:XE X b tb)(hm:behindInMarks op b=false):XE X (.Compare a [op] [b] pos) (tOp r ta tb):=⟨by intro pins s σ H Q I h;exact wpAny_Compare1 (wR ha.h hb.h I h fun v u s2 x y H2 I2 rx ry q=>ho pins s2 σ H2 x y v u Q I2 rx ry q) hm⟩
theorem iQ{a b c:Expr}{tb tc:TE}{op op':CmpOp}{r r':R2}(ho:OpR X (compareOp op) r)(ho':OpR X (compareOp op') r')(ha:XE X a ta)(hb:XE X b tb)(hc:XE X c tc)(hm:lastMarks [op,op'] [b,c]=false:=by with_unfolding_all rfl):XE X (.Compare a [op,op'] [b,c] pos) (hZ r r' ta tb tc):=⟨by
 intro pins s σ H Q I h;refine Compare_chain (thn (ha.h pins s σ H _ I h) fun v s1 ⟨x,H1,I1,r1,q1⟩=>chain_link (thn (hb.h pins s1 σ H1 _ I1 q1) fun u s2 ⟨y,H2,I2,r2,q2⟩=>thn (ho pins s2 σ H2 x y v u _ I2 r1 r2 q2) fun d s3 ⟨z,H3,I3,r3,k,e,q3⟩=>?_)) hm
 subst e
 cases r3
 refine wpAny_truthy_bool ?_
 cases k with
 |false=>exact ite_ff (zAA (.bl false) H3 I3 rfl q3)
 |true=>exact ite_tt (chain_last (thn (hc.h pins s3 σ H3 _ I3 q3) fun w' s4 ⟨z',H4,I4,r4,q4⟩=>ho' pins s4 σ H4 y z' u w' Q I4 r2 r4 q4))⟩
theorem fu{a b:Expr}{tb:TE}{dc:List Expr}(ha:XE X a ta)(hb:XE X (.BoolOp .And (b::dc) pos) tb):XE X (.BoolOp .And (a::b::dc) pos) (wt ta tb):=⟨by
 intro pins s σ H Q I h;refine BoolOp_and (thn (ha.h pins s σ H _ I h) fun v s1 hhx=>?_);obtain ⟨x,H1,I1,r1,q1⟩:=hhx;obtain ⟨c,rfl,q1⟩:=q1
 cases r1
 refine wpAny_truthy_bool ?_
 cases c with
 |true=>exact hb.h pins s1 σ H1 Q I1 q1
 |false=>exact zAA (.bl false) H1 I1 rfl q1⟩
theorem z4{a b:Expr}{tb:TE}{dc:List Expr}(ha:XE X a ta)(hb:XE X (.BoolOp .Or (b::dc) pos) tb):XE X (.BoolOp .Or (a::b::dc) pos) (AB ta tb):=⟨by
 intro pins s σ H Q I h;refine BoolOp_or (thn (ha.h pins s σ H _ I h) fun v s1 hhx=>?_);obtain ⟨x,H1,I1,r1,q1⟩:=hhx;obtain ⟨c,rfl,q1⟩:=q1
 cases r1
 refine wpAny_truthy_bool ?_
 cases c with
 |false=>exact hb.h pins s1 σ H1 Q I1 q1
 |true=>exact zAA (.bl true) H1 I1 rfl q1⟩
theorem fv{a:Expr}{op}{t:TE}(h:XE X a t):XE X (.BoolOp op [a] pos) t:=⟨fun pins s σ H Q I hw=>BoolOp_one (h.h pins s σ H Q I hw)⟩
theorem pk{a b:Expr}{tb:TE}{c:Expr}(hc:XT X c tA)(ha:XE X a ta)(hb:XE X b tb):XE X (.IfExp c a b pos) (tIf tA ta tb):=⟨by
 intro pins s σ H Q I h;refine wpAny_IfExp (thn (hc.h pins s σ H _ I h) fun d s1 hhx=>?_);obtain ⟨H1,I1,q1⟩:=hhx
 cases d with
 |true=>exact ha.h pins s1 σ H1 Q I1 q1
 |false=>exact hb.h pins s1 σ H1 Q I1 q1⟩
theorem aH{t:TA}(h:XA X es t):XE X (.List es pos) (Az t):=⟨by intro pins s σ H Q I hq;refine wpAny_List_spliced (thn (h.h pos pins s σ H _ I hq) fun us s1 ⟨xs,H1,I1,r,z,q⟩=>⟨by rw [<- r.length];exact z,?_⟩);have hf:H1 s1.heap.objs.size=none:=I1.hok.fresh (zq9 _);refine zAA (.ref s1.heap.objs.size) (upd H1 s1.heap.objs.size (.lst xs)) (I1.laid (t':=s1.toks) (fun b u e=>cz _ e) (zq9 _) ?_) rfl (q _ hf);exact ⟨z,zAE us 0 r (er _ rfl)⟩⟩
theorem bb{t:TA}{x1}(h:XA X es t):XE X (.Tuple es x1 pos) (AD t):=⟨by intro pins s σ H Q I hq;refine wpAny_Tuple_spliced (thn (h.h pos pins s σ H _ I hq) fun us s1 ⟨xs,H1,I1,r,z,q⟩=>⟨by rw [<- r.length];exact z,?_⟩);have hf:H1 s1.heap.objs.size=none:=I1.hok.fresh (zq9 _);refine zAA (.ref s1.heap.objs.size) (upd H1 s1.heap.objs.size (.tup xs)) (I1.laid (t':=s1.toks) (fun b u e=>cz _ e) (zq9 _) ?_) rfl (q _ hf);exact ⟨z,zn us r (zAD _ (er _ rfl) rfl ⟨_,rfl⟩)⟩⟩
theorem ax{e:Expr}{t:TA}{id:String}{r:List V->Hp->VK->Prop}(hc:cv X (.builtin id) r)(hg:Gl X x)(hm:X.mg x=none)(hv:bootBuiltins x=some (.builtin id))(ha:XA X (e::es) t)(hn:(x==("__name__":Str))=false:=by kernel_rfl) (hdb:(x==("__debug__":Str))=false:=by kernel_rfl) (he:starEach (e::es) X.env=(false,eval e X.env)::starEach es X.env:=by rfl) (hpl:(backTo pos (starEach es X.env)).any (·.1)=false:=by rfl):XE X (.Call (.Name x p) (e::es) [] pos) (tCB r t):=⟨qY hc hg hm hv ha.h (ja hn) hdb he hpl⟩
theorem aQ{e:Expr}{t:TA}{T:String}{r:List V->Hp->VK->Prop}(hc:cv X (.type T) r)(hg:Gl X x)(hm:X.mg x=none)(hv:bootBuiltins x=some (.type T))(ha:XA X (e::es) t)(hn:(x==("__name__":Str))=false:=by kernel_rfl) (hdb:(x==("__debug__":Str))=false:=by kernel_rfl) (he:starEach (e::es) X.env=(false,eval e X.env)::starEach es X.env:=by rfl) (hpl:(backTo pos (starEach es X.env)).any (·.1)=false:=by rfl):XE X (.Call (.Name x p) (e::es) [] pos) (tCB r t):=⟨oM hc hg hm hv ha.h (ja hn) hdb he hpl⟩
theorem aB{fd:FuncData}{st:Stmt}{e:Expr}{t:TA}(D:bf X.K X.mg x st ps f fd)(G:FnOk X.prog X.w X.K X.mg X.base CX0 k f fd ps sp)(hr:Room k X.A)(ha:XA X (e::es) t)(hg:Gl X x)(hdb:(x==("__debug__":Str))=false:=by kernel_rfl) (he:starEach (e::es) X.env=(false,eval e X.env)::starEach es X.env:=by rfl) (hpl:(backTo pos (starEach es X.env)).any (·.1)=false:=by rfl):XE X (.Call (.Name x p) (e::es) [] pos) (iN sp [] E0 t):=⟨rl D G hr ha.h hg hdb he hpl⟩
theorem bS{e:Expr}{t:TA}{name:Str}{cpos:Pos}{T id:String}{r:V->List V->Hp->VK->Prop}(pa:PlainAttrs T)(slot:Slot T name id)(hty:typeOf (.builtin id)=pure (.type "method_descriptor")) (hm:MtR X id r) (ho:XE X o to) (ha:XA X (e::es) t) (hbase:attributeBase o name X.env (eval o X.env)=eval o X.env:=by rfl) (hfew:((backTo cpos (starEach (e::es) X.env)).all (fun x=>! x.1)&&(backToKw cpos (keywordEach [] X.env)).all (fun x=>x.1.isSome)
 && decide ((e::es).length+([]:List Keyword).length+(if ([]:List Keyword).isEmpty then 0 else 1)<30))=true:=by rfl) (hline:(apos.endLine==cpos.line)=true:=by rfl) (hs:starEach (e::es) X.env=(false,eval e X.env)::starEach es X.env:=by rfl) (hplain:(backTo cpos (starEach es X.env)).any (·.1)=false:=by rfl):XE X (.Call (.Attribute o name apos) (e::es) [] cpos) (tBM X.K T r to t):=⟨zH pa slot hty hm ho.h ha.h hbase hfew hline hs hplain⟩
theorem js{name:Str}{cpos:Pos}{T id:String}{r:V->List V->Hp->VK->Prop}(pa:PlainAttrs T)(slot:Slot T name id)(hty:typeOf (.builtin id)=pure (.type "method_descriptor")) (hm:MtR X id r) (ho:XE X o to) (hbase:attributeBase o name X.env (eval o X.env)=eval o X.env:=by rfl) (hline:(apos.endLine==cpos.line)=true:=by rfl):XE X (.Call (.Attribute o name apos) [] [] cpos) (Ax X.K T r to):=⟨by intro pins s σ H Q I h;refine wpAny_Call_method0_late hbase hline (thn (ho.h pins s σ H _ I h) fun v s1 hhx=>?_);obtain ⟨x,H1,I1,r1,ty,q1⟩:=hhx;obtain ⟨h1,h2⟩:=sq I1 r1 ty;exact zBD T id pa slot hty h1 h2 (Calls.callWith_builtin rfl (PySem.evalArgs_none (hm pins s1 σ H1 x [] v [] Q I1 r1 .nil q1)))⟩
theorem aV{lo hi:Option Expr}{tl th:TO}{p2:Pos}{r:V->Option Int->Option Int->Hp->VK->Prop}(hr:SlR X r)(he:XE X e te)(hl:XO X lo tl)(hu:XO X hi th):XE X (.Subscript e (.Slice lo hi none p2) pos) (tSl r te tl th):=⟨by intro pins s σ H Q I h;refine Subscript_ (thn (he.h pins s σ H _ I h) fun v s1 hhx=>?_);obtain ⟨x,H1,I1,r1,q1⟩:=hhx;refine wpAny_Slice (thn (hl.h pins s1 σ H1 _ I1 q1) fun vl s2 ⟨l,H2,I2,pl,q2⟩=>thn (hu.h pins s2 σ H2 _ I2 q2) fun vu s3 hhx=>?_);obtain ⟨u,H3,I3,pu,q3⟩:=hhx;rw [evalPart_none];refine cu ?_;have I4:Inv X pins σ H3 {s3 with heap:=s3.heap.push {cls:=.type "slice",data:=.fields #[vl,vu,.none]}}:=I3.kept (t':=s3.toks) fun b ob q=>cz _ q;obtain ⟨T,id,hT,ht,hg⟩:=hr pins {s3 with heap:=s3.heap.push {cls:=.type "slice",data:=.fields #[vl,vu,.none]}} σ H3 x v vl vu l u s3.heap.objs.size Q I4 r1 (Heap.IsSliceOf.new ..) pl pu q3;show wpAny (model X.prog X.w) X.A (subscriptTail e (.Slice lo hi none p2) v (.ref s3.heap.objs.size)) (EP X pins σ Q) X.xe {s3 with heap:=s3.heap.push {cls:=.type "slice",data:=.fields #[vl,vu,.none]}};exact tail_any (ops:=[.ref s3.heap.objs.size,v]) ht hT hg (by with_unfolding_all rfl)⟩
theorem aw{a b:Expr}{tb:TE}{r:R2}(hr:IxR X r)(ha:XE X a ta)(hb:XE X b tb)(hs:tE b:=by intro _ _;rfl):XE X (.Subscript a b pos) (tOp r ta tb):=⟨by intro pins s σ H Q I h;exact Subscript_ (wR ha.h hb.h I h fun v u s2 x y H2 I2 rx ry q=>hr a b pins s2 σ H2 x y v u Q I2 rx ry q (hs _ _))⟩
theorem c9{f:Str}(he:XE X e ta)(hb:attributeBase e f X.env (eval e X.env)=eval e X.env):XE X (.Attribute e f pos) (Ay X.K ta f):=⟨by intro pins s σ H Q I h;refine tG hb (thn (he.h pins s σ H _ I h) fun u s1 hhx=>?_);obtain ⟨x,H1,I1,rx,a,C,dx,fs,v,ex,ea,c,n,l,q⟩:=hhx;subst ex;obtain rfl:u=Value.ref a:=rx;exact kW I1 ea c n l fun u' s2 I2 ru=>zAA v H1 I2 ru q⟩
theorem bM{elt tgt:Expr}{ifs:List Expr}{scope:Scope}{g:Bk->TG}{tt:Bk->TT}{te:Bk->TE}{tns cns:List Str}{ci:List Nat}(hc:X.calm=true)(S:CompSc X scope cns ci)(hi:XI X tgt iter wi)(hg:∀bk:Bk,XG (X.blk (".0"::(tns++cns)) scope bk) tgt (g bk)) (ht:∀bk:Bk,wK (X.blk (".0"::(tns++cns)) scope bk) ifs (tt bk)) (he:∀bk:Bk,XE (X.blk (".0"::(tns++cns)) scope bk) elt (te bk)) (hs:∀v,foldedSetIterable iter X.env v=pure v:=by intro _;rfl):XE X (.ListComp elt [⟨tgt,iter,ifs,0⟩] scope pos) (lY wi g tt te tns.length ci):=⟨rb hc S hi.h (fun bk=>(hg bk).h) (fun bk=>(ht bk).h) (fun bk=>(he bk).h) hs⟩
theorem sC{v:V}{u:Value}(hg:Gl X x)(hm:X.mg x=none)(hv:bootBuiltins x=some u)(r:RelV v u)(hn:(x==("__name__":Str))=false:=by kernel_rfl) (hd:(x==("__debug__":Str))=false:=by kernel_rfl):XE X (.Name x pos) (tC v):=⟨ut hg hm hv r (ja hn) hd⟩
theorem bU{v:V}{u:Value}(hg:Gl X x)(hm:X.mg x=some u)(r:RelV v u)(hd:(x==("__debug__":Str))=false:=by kernel_rfl):XE X (.Name x pos) (tC v):=⟨uu hg hm r hd⟩
theorem am{a b:Expr}{tb:TE}{op:CmpOp}{r:R2}(ho:OpR X (compareOp op) r)(ha:XE X a ta)(hb:XE X b tb)(hm:behindInMarks op b=false):XT X (.Compare a [op] [b] pos) (sf (tOp r ta tb)):=⟨by
 intro pins s σ H Q I h;refine wpAny_isTrue_Compare1 (thn (ha.h pins s σ H _ I h) fun v s1 ⟨x,H1,I1,r1,q1⟩=>thn (hb.h pins s1 σ H1 _ I1 q1) fun u s2 ⟨y,H2,I2,r2,q2⟩=>thn (ho pins s2 σ H2 x y v u _ I2 r1 r2 q2) fun c s3 ⟨z,H3,I3,r3,k,e,q3⟩=>?_) hm
 subst e
 cases r3
 exact wpAny_truthy_bool (zn H3 I3 q3)⟩
theorem pB{a b c:Expr}{tb tc:TE}{op op':CmpOp}{r r':R2}(ho:OpR X (compareOp op) r)(ho':OpR X (compareOp op') r')(ha:XE X a ta)(hb:XE X b tb)(hc:XE X c tc)(hm:lastMarks [op,op'] [b,c]=false:=by with_unfolding_all rfl):XT X (.Compare a [op,op'] [b,c] pos) (sf (hZ r r' ta tb tc)):=⟨by
 intro pins s σ H Q I h;refine isTrue_chain (thn (ha.h pins s σ H _ I h) fun v s1 ⟨x,H1,I1,r1,q1⟩=>test_link (thn (hb.h pins s1 σ H1 _ I1 q1) fun u s2 ⟨y,H2,I2,r2,q2⟩=>thn (ho pins s2 σ H2 x y v u _ I2 r1 r2 q2) fun d s3 ⟨z,H3,I3,r3,k,e,q3⟩=>?_)) hm
 subst e
 cases r3
 refine wpAny_truthy_bool ?_
 cases k with
 |false=>
  obtain ⟨k',e',q'⟩:=q3
  cases e'
  exact ite_ff (zn H3 I3 q')
 |true=>
  refine ite_tt (test_last (thn (hc.h pins s3 σ H3 _ I3 q3) fun w' s4 ⟨z',H4,I4,r4,q4⟩=>thn (ho' pins s4 σ H4 y z' u w' _ I4 r2 r4 q4) fun d' s5 hhx=>?_));obtain ⟨z2,H5,I5,r5,k2,e2,q5⟩:=hhx;subst e2
  cases r5
  exact wpAny_truthy_bool (zn H5 I5 q5)⟩
theorem cO{t:TE}(h:XE X e t)(he:∀whole,isTrue e X.env whole=(do let v <- whole;standAt e.pos;holding [v] (truthy v)):=by intro _;rfl):XT X e (tB t):=⟨by
 intro pins s σ H Q I hw;refine isTrue_plain (thn (h.h pins s σ H _ I hw) fun v s1 hhx=>?_) (he _);obtain ⟨x,H1,I1,r1,q1⟩:=hhx;obtain ⟨d,rfl,q⟩:=q1
 cases r1
 exact wpAny_truthy_bool (zn H1 I1 q)⟩
theorem iR{a:Expr}(ha:XE X a ta)(he:∀whole,isTrue a X.env whole=(do let v <- whole;standAt a.pos;holding [v] (truthy v))):XT X a (fun σ H Q=>ta σ H fun x H'=>∃k,wJ X.K x H' k/\Q k H'):=⟨rj ha.h he⟩
theorem ce{a:Expr}(ha:XT X a tA):XT X (.UnaryOp .Not a pos) (AA tA):=⟨by intro pins s σ H Q I h;exact isTrue_not (ha.h pins s σ H (fun c H1=>Q (! c) H1) I h)⟩
theorem aW{t:TT}(h:XW X e t):XT X e t:=⟨PW.pt h.h⟩
theorem bc{a b:Expr}{tB':TT}{dc:List Expr}(ha:XT X a tA)(hb:XW X (.BoolOp .And (b::dc) pos) tB'):XW X (.BoolOp .And (a::b::dc) pos) (Aw tA tB'):=⟨by
 intro wh pins s σ H Q I h;refine isTrue_and (thn (ha.h pins s σ H _ I h) fun c s1 hhx=>?_);obtain ⟨H1,I1,q1⟩:=hhx
 cases c with
 |true=>exact hb.h wh pins s1 σ H1 Q I1 q1
 |false=>exact zn H1 I1 q1⟩
theorem b9{a:Expr}(ha:XT X a tA):XW X (.BoolOp .And [a] pos) tA:=⟨by
 intro wh pins s σ H Q I h;refine isTrue_and (thn (ha.h pins s σ H Q I h) fun c s1 e=>?_)
 cases c with
 |true=>exact isTrue_and_nil e
 |false=>exact e⟩
theorem bN{a b:Expr}{tB':TT}{dc:List Expr}(ha:XT X a tA)(hb:XW X (.BoolOp .Or (b::dc) pos) tB'):XW X (.BoolOp .Or (a::b::dc) pos) (tOr tA tB'):=⟨by
 intro wh pins s σ H Q I h;refine isTrue_or (thn (ha.h pins s σ H _ I h) fun c s1 hhx=>?_);obtain ⟨H1,I1,q1⟩:=hhx
 cases c with
 |true=>exact zn H1 I1 q1
 |false=>exact hb.h wh pins s1 σ H1 Q I1 q1⟩
theorem c4{a:Expr}(ha:XT X a tA):XW X (.BoolOp .Or [a] pos) tA:=⟨by
 intro wh pins s σ H Q I h;refine isTrue_or (thn (ha.h pins s σ H Q I h) fun c s1 e=>?_)
 cases c with
 |false=>exact isTrue_or_nil e
 |true=>exact e⟩
theorem af:XA X [] m4:=⟨qX⟩
theorem aa{e:Expr}{t:TA}(ha:XE X e te)(hr:XA X es t)(hs:starEach (e::es) X.env=(false,eval e X.env)::starEach es X.env:=by rfl):XA X (e::es) (sd te t):=⟨nc ha.h hr.h hs⟩
theorem bj:XO X none nL:=⟨by intro pins s σ H Q I h;rw [evalPart_none];exact cu (zAA none H I .none h)⟩
theorem aZ(h:XE X e te):XO X (some e) (wx te):=⟨by intro pins s σ H Q I hw;rw [evalPart_some];refine thn (h.h pins s σ H _ I hw) fun u s1 hhx=>?_;obtain ⟨x,H1,I1,r1,q1⟩:=hhx;obtain ⟨i,rfl,q⟩:=q1;obtain ⟨t,rfl⟩:=r1;exact zAA (some i) H1 I1 (.int i t) q⟩
theorem aK(hN:X.N.Nodup)(hi:X.N[i]?=some x)(hx:Loc X.env.scope x)(hf:X.fn x=true\/X.env.scope.names.lookup x=some .local:=by first | exact .inl rfl | exact .inr rfl | assumption):XG X (.Name x pos) (bD i):=⟨ni hN hi hx hf⟩
theorem gr{t:TGs}{n:Nat}(hc:X.calm=true)(h:XGs X es t)(hn:(assignEach es X.env).length=n:=by rfl)(hst:(assignEach es X.env).findIdx? (·.1)=none:=by rfl):XG X (.Tuple es k pos) (zo X.K n t):=⟨by
 intro pins s σ H v u Q I r hw;obtain ⟨a,xs,e1,hq,hl,hw⟩:=hw;subst e1
 cases r
 obtain ⟨its,rv,ht,hz⟩:=I.tuple hq;refine assign_Tuple_tuple (I.ok.hd hc) ht (by simp [hn,<- hl,rv.length]) hst fun h' hx=>?_;have I1:Inv X pins σ H {s with heap:=h'}:=I.kept (t':=s.toks) fun b o e=>hx b o (cZ (bP e)) e;exact h.h pins _ σ H xs _ Q I1 (by simpa using rv) hw⟩
theorem fw:XGs X [] zm:=⟨by
 intro pins s σ H vs us Q I r h;obtain ⟨e,h⟩:=h;subst e
 cases r
 exact assignInOrder_nil (zAE σ H I h)⟩
theorem bz{e:Expr}{t:TG}{u:TGs}(h1:XG X e t)(h2:XGs X es u)(hs:(assignEach (e::es) X.env).map (·.2)=assign e X.env::(assignEach es X.env).map (·.2):=by rfl):XGs X (e::es) (vh t u):=⟨by
 intro pins s σ H vs us Q I r h;obtain ⟨v,vr,e1,h⟩:=h;subst e1
 cases r with
 |cons r rr=>rw [hs];refine assignInOrder_cons (thn (h1.h pins s σ H _ _ _ I r h) fun _ s1 hhx=>?_);obtain ⟨σ1,H1,I1,q1⟩:=hhx;exact h2.h pins s1 σ1 H1 _ _ Q I1 rr q1⟩
theorem uW{i:Expr}{ti:TE}{t:pM}(ho:XE X o to)(hi:XE X i ti)(hs:wI X t)(ha:∀v,assign (.Subscript o i pos) X.env v=(do
 let ov <- holding [v] (eval o X.env)
 let iv <- holding [v,ov] (eval i X.env)
 standAt pos
 holding [v,ov,iv] (setItem ov iv v)
 release [v,ov,iv] []):=by intro _;rfl):XG X (.Subscript o i pos) (wW to ti t):=⟨xB ho.h hi.h hs ha⟩
theorem bT{a:Expr}{ta:TA}(hg:Gl X "range") (hm:X.mg "range"=none) (ha:XA X [a] ta) (hs:starEach [a] X.env=[(false,eval a X.env)]:=by rfl):XI X tg (.Call (.Name "range" p) [a] [] pos) (vj ta):=⟨by
 intro pins s σ H R I h;refine Call_ (gJ I hg hm boot_range (PyProof.Rows.callWith_type1 (thn (ha.h pos pins s σ H _ I h) fun us s1 hhx=>?_) hs rfl));obtain ⟨vs,H1,I1,r1,q1⟩:=hhx;obtain ⟨j,e,q1,q2,q⟩:=q1;subst e
 cases r1 with
 |cons r rr=>
  cases rr
  obtain ⟨t,rfl⟩:=r;exact call_range_1 (rL I1 Jn Jn q1 q2 (by simpa using q))⟩
theorem kH{a:Expr}{ta:TA}{pos0:Pos}{elts:List Expr}{k0:Nat}(hm:X.mg "enumerate"=none) (ha:XA X [a] ta) (hg:Gl X "enumerate":=by rfl) (hs:starEach [a] X.env=[(false,eval a X.env)]:=by rfl):XI X (.Tuple elts k0 pos0) (.Call (.Name "enumerate" p) [a] [] pos) (qz X.K ta):=⟨uw hm ha.h hg hs⟩
theorem cr{l:Expr}{tl:TE}(hl:XE X l tl):XI X tg l (vi X.K tl):=⟨by
 intro pins s σ H R I h;refine thn (hl.h pins s σ H _ I h) fun v s1 hhx=>?_;obtain ⟨x,H1,I1,r1,q1⟩:=hhx;obtain ⟨a,e,⟨xs,hq⟩,q⟩:=q1;subst e
 cases r1
 obtain ⟨its,rv,p,hz⟩:=I1.list hq;refine wpAny_pyIter_list p.isList ?_;refine zBE s1.heap.objs.size ([s1.heap.objs.size]) _ _ H1 rfl (I1.kept (t':=s1.toks) fun b o e=>cz _ e) (oZ a _) (zAD _ (er _ rfl) rfl rfl) (fun b hb=>?_) q;have e:b=s1.heap.objs.size:=by simpa using hb
 subst e;exact I1.fpOk (zq9 _) (I1.hok.fresh (zq9 _))⟩
theorem ar(hN:X.N.Nodup)(hi:X.N[i]?=some x)(hx:Loc X.env.scope x)(he:XE X e te)(hs:swapsWith e (some (.Name x pos')) pos.line X.env=pure false:=by rfl)(hf:X.fn x=true\/X.env.scope.names.lookup x=some .local:=by first | exact .inl rfl | exact .inr rfl | assumption):XS X (.Assign [.Name x pos'] e pos) (uU te (bD i)):=⟨xE hN hi hx he.h hs hf⟩
theorem kI{px:Pos}{elt tgt:Expr}{ifs:List Expr}{scope:Scope}{g:Bk->TG}{tt:Bk->TT}{te:Bk->TE}{tns cns:List Str}{ci:List Nat}(hN:X.N.Nodup)(hx:X.N[i]?=some x)(hl:Loc X.env.scope x)(hf:X.fn x=true)(hsw:swapsWith (.ListComp elt [⟨tgt,iter,ifs,0⟩] scope pos) (some (.Name x px)) pos'.line X.env=pure true)(hc:X.calm=true)(S:CompSc X scope cns ci)(hi:XI X tgt iter wi)(hg:∀bk:Bk,XG (X.blk (".0"::(tns++cns)) scope bk) tgt (g bk)) (ht:∀bk:Bk,wK (X.blk (".0"::(tns++cns)) scope bk) ifs (tt bk)) (he:∀bk:Bk,XE (X.blk (".0"::(tns++cns)) scope bk) elt (te bk)) (hs:∀v,foldedSetIterable iter X.env v=pure v:=by intro _;rfl):XS X (.Assign [.Name x px] (.ListComp elt [⟨tgt,iter,ifs,0⟩] scope pos) pos') (gY i wi g tt te tns.length ci):=⟨lQ hN hx hl hf hsw hc S hi.h (fun bk=>(hg bk).h) (fun bk=>(ht bk).h) (fun bk=>(he bk).h) hs⟩
theorem ju{g:TG}(he:XE X e te)(hg:XG X tg g)(hs:swapsWithSole [tg] e pos.line X.env=pure false:=by rfl)(hw:swappedStores [tg] e X.env=pure none:=by rfl)(h1:(assignEach [tg] X.env).map (·.2)=[assign tg X.env]:=by rfl):XS X (.Assign [tg] e pos) (uU te g):=⟨by intro pins s σ H D I h;refine wpAny_Assign_stores (thn (he.h pins s σ H _ I h) fun v s1 hhx=>?_) hs hw;obtain ⟨x,H1,I1,r1,q1⟩:=hhx;rw [h1];exact thn (hg.h pins s1 σ H1 x v _ I1 r1 q1) fun _ s2 q=>q⟩
theorem bZ{value:Expr}{f:Str}{tv:TE}(ha:XE X o ta)(hv:XE X value tv)(hs:swapsWith value (some (.Attribute o f pos')) pos.line X.env=pure false):XS X (.Assign [.Attribute o f pos'] value pos) (As X.K ta tv f):=⟨by intro pins s σ H D I h;refine plainObj_wpAny_Assign_Attribute (thn (hv.h pins s σ H _ I h) fun u s1 ⟨y,H1,I1,ry,q⟩=>thn (ha.h pins s1 σ H1 _ I1 q) fun ov s2 hhx=>?_) hs;obtain ⟨x,H2,I2,rx,a,C,dx,fs,ex,ea,c,n,l,q2⟩:=hhx;subst ex;obtain rfl:ov=Value.ref a:=rx;exact lV I2 ea c n l ry fun s3 I3=>zAE σ _ I3 q2⟩
theorem av(he:XE X e te):XS X (.Return (some e) pos) (AC te):=⟨by intro pins s σ H D I h;exact wpAny_Return_some (thn (he.h pins s σ H _ I h) fun v s1 ⟨x,H1,I1,r1,q1⟩=>zAU x σ H1 I1 r1 q1)⟩
theorem aR(he:XE X e te)(hs:swapsWith e none pos.line X.env=pure false:=by rfl):XS X (.Expr e pos) (wu te):=⟨by intro pins s σ H D I h;exact wpAny_Expr_any (thn (he.h pins s σ H _ I h) fun v s1 ⟨x,H1,I1,r1,q1⟩=>zAE σ H1 I1 q1) I.quiet hs⟩
theorem aD{t u:TS}{c:Expr}{a b:List Stmt}{tc:TT}(hc:XT X c tc)(ha:XSs X a t)(hb:XSs X b u):XS X (.If c a b pos) (yQ tc t u):=⟨by
 intro pins s σ H D I h;refine wpAny_If (thn (hc.h pins s σ H _ I h) fun d s1 hhx=>?_);obtain ⟨H1,I1,q1⟩:=hhx
 cases d with
 |true=>exact ha.h pins s1 σ H1 D I1 q1
 |false=>exact hb.h pins s1 σ H1 D I1 q1⟩
theorem fM{c:Expr}{body:List Stmt}{tc:TT}{tb:TS}(hp:PassesOwn (model X.prog X.w) X.A X.env X.xe)(hc:XT X c tc)(hb:XSs X body tb):XS X (.While c body [] pos) (sg tc tb):=⟨by
 intro pins s σ H D I h;obtain ⟨W,⟨m0,w0⟩,turn⟩:=h;refine wpAny_While (codeAny_whileLoop (fun n s'=>∃σ' H',Inv X pins σ' H' s'/\W n σ' H') ?_ m0 (zAE σ H I w0));rintro n s1 ⟨σ1,H1,I1,w1⟩;refine wpAny_passesOwn hp (thn (hc.h pins s1 σ1 H1 _ I1 (turn n σ1 H1 w1)) fun b s2 hhx=>?_);obtain ⟨H2,I2,q2⟩:=hhx
 cases b with
 |true=>
  obtain ⟨N,hN,q2⟩:=q2;rw [zq1 rfl];refine wpAny_passesOwn hp (thn (hb.h pins s2 σ1 H2 _ I2 q2) fun f s3 q3=>?_)
  cases f with
  |next=>
   obtain ⟨σ3,H3,I3,n3⟩:=q3;obtain ⟨m',hm,w3⟩:=hN σ3 H3 n3;exact zn m' hm (zAE σ3 H3 I3 w3)
  |cont=>
   obtain ⟨σ3,H3,I3,n3⟩:=q3;obtain ⟨m',hm,w3⟩:=hN σ3 H3 n3;exact zn m' hm (zAE σ3 H3 I3 w3)
  |brk=>exact q3
  |ret v=>exact q3
 |false=>rw [zq0 zq8];exact wpAny_execs_nil (zAE σ1 H2 I2 q2)⟩
theorem cc{body:List Stmt}{g:TG}{tb:TS}(hp:PassesOwn (model X.prog X.w) X.A X.env X.xe)(hc:X.calm=true)(hi:XI X tg iter wi)(hg:XG X tg g)(hb:XSs X body tb)(hs:∀x,foldedSetIterable iter X.env x=pure x:=by intro _;rfl):XS X (.For tg iter body [] pos) (yP wi g tb):=⟨xD hp hc hi.h hg.h hb.h hs⟩
theorem pw:XS X (.Break pos) rZ:=⟨fun _ _ σ H _ I h=>wpAny_Break (zAE σ H I h)⟩
theorem ay:XSs X [] ww:=⟨fun _ _ σ H _ I h=>wpAny_execs_nil (zAE σ H I h)⟩
theorem aj{st:Stmt}{t:TS}(h1:XS X st t):XSs X [st] t:=⟨by
 intro pins s σ H D I h;refine wpAny_execs_cons (thn (h1.h pins s σ H D I h) fun f s1 q=>?_)
 cases f with
 |next=>exact wpAny_execs_nil q
 |ret v=>exact q
 |brk=>exact q
 |cont=>exact q⟩
theorem ai{st:Stmt}{dc:List Stmt}{t u:TS}(h1:XS X st t)(h2:XSs X dc u):XSs X (st::dc) (yS t u):=⟨by
 intro pins s σ H D I h;refine wpAny_execs_cons (thn (h1.h pins s σ H {D with nx:=u D} I h) fun f s1 q=>?_)
 cases f with
 |next=>
  obtain ⟨σ',H',I',q⟩:=q;exact h2.h pins s1 σ' H' D I' q
 |ret v=>exact q
 |brk=>exact q
 |cont=>exact q⟩
theorem bh{st:Stmt}{ss:List Stmt}{ta tb:TS}(h1:XS X st ta)(h2:XSs X ss tb):XSs X (st::ss) (yR ta tb):=⟨by
 intro pins s σ H D I h;obtain ⟨Mid,a,b⟩:=h;refine wpAny_execs_cons (thn (h1.h pins s σ H {D with nx:=Mid} I a) fun f s1 q=>?_)
 cases f with
 |next=>
  obtain ⟨σ',H',I',q⟩:=q;exact h2.h pins s1 σ' H' D I' (b σ' H' q)
 |ret v=>exact q
 |brk=>exact q
 |cont=>exact q⟩
theorem cq:wK X [] oX:=⟨fun pins s σ H Q I h=>wpAny_tests_nil (zn H I h)⟩
theorem AF{CX:CXT}{C:Addr}{fd:FuncData}{dvs:List V}{ds:List Value}{E:XK}{m:Str}{e:Expr}{t:TA}{pl:Sem Bool}(he:XE X o ta)(c:Cls X.K C)(hm:nP X.K C m f)(F:FnOk X.prog X.w X.K X.mg X.base CX k f fd ps sp)(hr:Room k X.A)(hb:Binds X.K fd ps ds)(hd:Vals dvs ds)(hx:cH CX X E)(ha:XA X (e::es) t)(hst:starEach (e::es) X.env=(false,eval e X.env)::starEach es X.env:=by rfl)(hpl:(backTo pos (starEach es X.env)).any (·.1)=false:=by rfl)(ht:eval (.Call (.Attribute o m apos) (e::es) [] pos) X.env=(do
 let ov <- eval o X.env
 standAt apos.atName
 let (f,first) <- holding [ov] (getMethod ov m pl)
 callWith pos f first (backTo pos (starEach (e::es) X.env)) (backToKw pos (keywordEach [] X.env))):=by rfl):XE X (.Call (.Attribute o m apos) (e::es) [] pos) (eK C m sp dvs E ta t):=⟨jk he.h c hm F hr hb hd hx ha.h hst hpl ht⟩
theorem iT{C:Addr}{fd:FuncData}{qual:Str}{st:Stmt}{e:Expr}{t:TA}(c:KlsAt X.K X.mg x C)(D:bv X.K C "__init__" qual st ps f fd) (G:FnOk X.prog X.w X.K X.mg X.base CX0 k f fd ps sp) (hr:Room (k+1) X.A) (ha:XA X (e::es) t) (hg:Gl X x) (hdb:(x==("__debug__":Str))=false:=by kernel_rfl) (he:starEach (e::es) X.env=(false,eval e X.env)::starEach es X.env:=by rfl) (hpl:(backTo pos (starEach es X.env)).any (·.1)=false:=by rfl):XE X (.Call (.Name x p) (e::es) [] pos) (kF C sp [] E0 t):=⟨rm c D G hr ha.h hg hdb he hpl⟩
theorem cY{C:Addr}{fd:FuncData}{m qual:Str}{st:Stmt}{pl:Sem Bool}(c:Cls X.K C)(D:bv X.K C m qual st ps f fd)(G:FnOk X.prog X.w X.K X.mg X.base CX0 k f fd ps sp)(hr:Room k X.A)(he:XE X o ta)(ht:eval (.Call (.Attribute o m apos) [] [] pos) X.env=(do
 let ov <- eval o X.env
 standAt apos.atName
 let (f,first) <- holding [ov] (getMethod ov m pl)
 callWith pos f first (backTo pos (starEach [] X.env)) (backToKw pos (keywordEach [] X.env))):=by rfl):XE X (.Call (.Attribute o m apos) [] [] pos) (eK C m sp [] E0 ta m4):=⟨oP c D G hr he.h ht⟩
theorem bp{vs:List V}(h:gk es=some vs):XA X es (tVs vs):=⟨kh h⟩
end L2
namespace L2
end L2
namespace L2
section
variable {X:Cx}
end
section
variable {X:Cx} {e:Expr} {x:Str} {p apos cpos:Pos} {ty:TE} {a:Addr} {kvs:List (Key×V)} {pr:Params}
end
end L2
namespace L2
section
variable {prog:Program} {w:World} {A:Around} {E:Value->Shared->Prop} {s:Shared}
open AutoSeq1 (wpAny_loadPart') in
end
section
variable {K:W.Frag} {a:Addr} {xs:List V}
end
section
variable {K:W.Frag} {a b:Addr} {H:Hp} {Q:VK}
theorem zR:zJ K [.ref a] H Q=∃bs:List Bool,SqL K H a (bs.map V.bl)/\Q (.bl (bs.all id)) H:=propext ⟨by rintro ⟨_,ns,e,q⟩;cases e;exact ⟨ns,q⟩,by rintro ⟨ns,q⟩;exact zAE a ns rfl q⟩
end
end L2
namespace L2
variable {a0 a1 a10 a2 a3 a4 a5 a6 a7 a8 a9:Option V} {i:Int} {r:St} {x:V}
def uR:Nat->St->Option V
 |0,o::_=>o
 |n+1,_::r=>uR n r
 |_,[]=>none
theorem kE:∀{n:Nat} {σ:St} {v:V},uR n σ=some v->σ[n]?=some (some v)
 |0,o::_,v,h=>by rw [show uR 0 (o::_)=o from rfl] at h;rw [h];rfl
 |n+1,_::r,v,h=>by rw [wB];exact kE h
 |0,[],_,h=>by cases h
 |_+1,[],_,h=>by cases h
def dU(i:Nat):TE:=fun σ H Q=>match uR i σ with
 |some v=>Q v H
 |none=>False
theorem uX{i:Nat}{σ:St}{H:Hp}{Q:VK}(h:dU i σ H Q):yV i σ H Q:=by
 unfold dU at h
 split at h
 ·next v e=>exact zn v (kE e) h
 ·exact h.elim
theorem yqv{X:Cx}(i:Nat){x:Str}{pos:Pos}(hv:Vis X.env.scope x)(hN:X.N[i]?=some x:=by rfl)(hd:(x==("__debug__":Str))=false:=by kernel_rfl) (hcd:(x==("__classdict__":Str))=false:=by kernel_rfl):XE X (.Name x pos) (dU i):=
 ⟨fun pins s σ H Q I h=>qv i hv hN hd hcd pins s σ H Q I (uX h)⟩
def yI0(g:Int->Int->V):R2:=fun x y H Q=>match x,y with
 | .int i,.int j=>Q (g i j) H
 |_,_=>False
def yI(C:Int->Int->Prop)(g:Int->Int->V):R2:=fun x y H Q=>match x,y with
 | .int i,.int j=>C i j/\Q (g i j) H
 |_,_=>False
def yU(g:Int->V):V->Hp->VK->Prop:=fun x H Q=>match x with
 | .int i=>Q (g i) H
 |_=>False
theorem fN{g:Int->Int->V}{y:V}{H:Hp}{Q:VK}(h:yI0 g x y H Q):rI0 g x y H Q:=by
 unfold yI0 at h
 split at h
 ·exact zAA _ _ rfl rfl h
 ·exact h.elim
theorem iU{C:Int->Int->Prop}{g:Int->Int->V}{y:V}{H:Hp}{Q:VK}(h:yI C g x y H Q):rI C g x y H Q:=by
 unfold yI at h
 split at h
 ·exact zAA _ _ rfl rfl h
 ·exact h.elim
theorem AG{g:Int->V}{H:Hp}{Q:VK}(h:yU g x H Q):rU g x H Q:=by
 unfold yU at h
 split at h
 ·exact zn _ rfl h
 ·exact h.elim
section
variable {X:Cx}
theorem OpR.le{f:Value->Value->Sem Value}{r r':R2}(h:OpR X f r)(le:∀{x y:V} {H:Hp} {Q:VK},r' x y H Q->r x y H Q):OpR X f r':=fun pins s σ H x y v u Q I rx ry q=>h pins s σ H x y v u Q I rx ry (le q)
theorem aL:OpR X (binaryOp .Add) (yI0 fun i j=>.int (i+j)):=OpR.le xp fN
theorem jw:OpR X (binaryOp .Sub) (yI0 fun i j=>.int (i-j)):=OpR.le xw fN
theorem cP:OpR X (binaryOp .Mult) (yI CMul fun i j=>.int (i * j)):=OpR.le xt iU
theorem aN:OpR X (binaryOp .Mod) (yI (fun _ j=>0<j) fun i j=>.int (i % j)):=OpR.le xr iU
theorem nN:OpR X (binaryOp .Pow) (yI pI fun i j=>.int (i ^ j.toNat)):=OpR.le xu iU
theorem fz:OpR X (binaryOp .LShift) (yI pI fun i j=>.int (i * 2 ^ j.toNat)):=OpR.le xv iU
theorem cy:OpR X (compareOp .Lt) (yI0 fun i j=>.bl (decide (i<j))):=OpR.le zG fN
theorem jv:OpR X (compareOp .LtE) (yI0 fun i j=>.bl (decide (i<=j))):=OpR.le zF fN
theorem bG:OpR X (compareOp .Gt) (yI0 fun i j=>.bl (decide (j<i))):=OpR.le zE fN
theorem md:OpR X (compareOp .GtE) (yI0 fun i j=>.bl (decide (j<=i))):=OpR.le zD fN
theorem aM:OpR X (binaryOp .FloorDiv) (yI CDivB fun i j=>.int (i / j)):=OpR.le qW iU
theorem sD:OpR X (binaryOp .Mult) (yI IntMulOk fun i j=>.int (i * j)):=OpR.le uq iU
theorem bO:UnR X (unaryOp .USub) (yU fun i=>.int (-i)):=fun pins s σ H x v Q I rx q=>yZ pins s σ H x v Q I rx (AG q)
end
section
variable {H:Hp} {Q:VK}
theorem Bl{v:V}:dU 0 (some v::r) H Q=Q v H:=rfl
theorem Bm{v:V}:dU 1 (a0::some v::r) H Q=Q v H:=rfl
theorem Bn{v:V}:dU 2 (a0::a1::some v::r) H Q=Q v H:=rfl
theorem Bo{v:V}:dU 3 (a0::a1::a2::some v::r) H Q=Q v H:=rfl
theorem Bp{v:V}:dU 4 (a0::a1::a2::a3::some v::r) H Q=Q v H:=rfl
theorem Bq{v:V}:dU 5 (a0::a1::a2::a3::a4::some v::r) H Q=Q v H:=rfl
theorem Br{v:V}:dU 6 (a0::a1::a2::a3::a4::a5::some v::r) H Q=Q v H:=rfl
theorem Bs{v:V}:dU 7 (a0::a1::a2::a3::a4::a5::a6::some v::r) H Q=Q v H:=rfl
theorem Bt{v:V}:dU 8 (a0::a1::a2::a3::a4::a5::a6::a7::some v::r) H Q=Q v H:=rfl
theorem Bu{v:V}:dU 9 (a0::a1::a2::a3::a4::a5::a6::a7::a8::some v::r) H Q=Q v H:=rfl
theorem AH{v:V}:dU 10 (a0::a1::a2::a3::a4::a5::a6::a7::a8::a9::some v::r) H Q=Q v H:=rfl
theorem AI{v:V}:dU 11 (a0::a1::a2::a3::a4::a5::a6::a7::a8::a9::a10::some v::r) H Q=Q v H:=rfl
theorem AJ{v:V}{a11:Option V}:dU 12 (a0::a1::a2::a3::a4::a5::a6::a7::a8::a9::a10::a11::some v::r) H Q=Q v H:=rfl
theorem AK{v:V}{a11:Option V}{a12:Option V}:dU 13 (a0::a1::a2::a3::a4::a5::a6::a7::a8::a9::a10::a11::a12::some v::r) H Q=Q v H:=rfl
theorem Bj{g:Int->Int->V}{j:Int}:yI0 g (.int i) (.int j) H Q=Q (g i j) H:=rfl
theorem y_I{C:Int->Int->Prop}{g:Int->Int->V}{j:Int}:yI C g (.int i) (.int j) H Q=(C i j/\Q (g i j) H):=rfl
theorem y_U{g:Int->V}:yU g (.int i) H Q=Q (g i) H:=rfl
end
end L2
end
set_option maxHeartbeats 4000000
namespace FA
open PySem L2 PyProof.Rows
def cJ(c k:Int):Int:=
 if 10 ^ Int.toNat 40<=c then (c-10 ^ Int.toNat 40) / (1 * 2 ^ (100 * (k % 60)).toNat) % (1 * 2 ^ Int.toNat 100)
 else ((c * c+3 * c+7919 * k+1) * 48271 % 2147483629 * ((c * c+3 * c+7919 * k+1) * 48271 % 2147483629)+7) % 2147483587
theorem gM(c k:Int):0<=cJ c k:=by
 unfold cJ
 split
 ·exact cB _ Jm
 ·exact cB _ Jm
theorem CDivB.pow{i:Int}{n:Nat}(h:n<9000):CDivB i (1 * 2 ^ n):=by rw [jz];refine ⟨Int.pow_pos Jm,?_⟩;rw [Int.natAbs_pow];show (2 ^ n).log2<9000;rw [Nat.log2_two_pow];exact h
theorem ud{c:Int}(h:Builtin.Int.intBits c<=2 ^ 20):IntMulOk c c:=mulOk_of_bits h h Jm
def ltr(z:Int):Nat:=97+(z % 26).toNat
def qD(m pl k:Int)(j:Nat):Int:=m / 36+j * j+(if decide ((j:Int)=pl)=true then 1 else 0) * k
def nm(m pl k:Int):Nat->Str
 |0=>""
 |j+1=>nm m pl k j++⟨#[ltr (qD m pl k j)]⟩
theorem lC(m pl k:Int):∀j,(nm m pl k j).length=j
 |0=>by show ("":Str).length=0;decide +kernel
 |j+1=>by rw [nm,strLen_append,lC m pl k j];rfl
def nms(m:Int)(n:Nat):List Str:=(List.range n).map fun (k:Nat)=>nm m (m / 6 % (1+m % 6)) k (1+m % 6).toNat
theorem qE(m:Int)(n:Nat):nms m (n+1)=nms m n++[nm m (m / 6 % (1+m % 6)) n (1+m % 6).toNat]:=by unfold nms;rw [List.range_succ,bI,List.map_singleton]
def AS:List Str:=["tell","end","if","in","box","while","else","plus"]
def bw(c:Int):List Str:=if cJ c 3 / 1000 % 5=1 then AS else nms (cJ c 3) 8
theorem zy:∀n:Nat,n<26->atI ("abcdefghijklmnopqrstuvwxyz":Str).cps.toList (n:Int)=some (97+n):=by decide +kernel
theorem xg(z:Int):atI ("abcdefghijklmnopqrstuvwxyz":Str).cps.toList (z % 26)=some (ltr z):=by have h0:0<=z % 26:=cB _ Jm;have h1:z % 26<26:=d4 _ Jm;unfold ltr;obtain ⟨n,hn⟩:=i4 h0;rw [hn];exact zy n Jn
def gc(m:Int)(ns:List Str):Str:=ns.getD (m % (ns.length:Int)).toNat ""
theorem jl{m:Int}{ns:List Str}(h:¬ns=[]):atI (ns.map V.str) (m % (ns.length:Int))=some (.str (gc m ns)):=by
 have hl:0<ns.length:=zq59.mpr h;have h0:0<=m % (ns.length:Int):=cB _ Jn;have h1:m % (ns.length:Int)<ns.length:=d4 _ Jn;unfold gc;obtain ⟨n,hn⟩:=i4 h0;rw [hn];refine bt ?_;have hn':n<ns.length:=by omega
 rw [cA,eQ,sW,dI hn'];rfl
theorem fh{m:Int}{ns:List Str}(h:¬ns=[]):gc m ns∈ns:=by
 have hl:0<ns.length:=zq59.mpr h;have h0:0<=m % (ns.length:Int):=cB _ Jn;have h1:m % (ns.length:Int)<ns.length:=d4 _ Jn;unfold gc;have hn':(m % (ns.length:Int)).toNat<ns.length:=by omega
 rw [sW,dI hn'];exact pG hn'
def ji(m:Int)(ns:List Str)(w:Int):V:=if 0<m % 3/\¬ns=[] then .str (gc (m / 3) ns) else .int (m / 3 % (1 * 2 ^ w.toNat))
def opsL:List Str:=["plus","less","and","or","xor","below","same"]
def jS(m:Int)(ns:List Str)(w:Int):List V:=
 if m % 9=0\/ns=[] then [.str "tell",ji (m / 16) ns w]
 else if m % 9=1 then [.str "copy",.str (gc (m / 7) ns),ji (m / 16) ns w]
 else [.str (opsL.getD (m % 9-2).toNat ""),.str (gc (m / 7) ns),ji (m / 16) ns w,ji (m / 1009) ns w]
theorem ur:∀n:Nat,n<7->atI [V.str "plus",V.str "less",V.str "and",V.str "or",V.str "xor",V.str "below",V.str "same"] (n:Int)=some (.str (opsL.getD n "")):=by decide +kernel
theorem xx{j:Int}(h0:0<=j)(h7:j<7):atI [V.str "plus",V.str "less",V.str "and",V.str "or",V.str "xor",V.str "below",V.str "same"] j=some (.str (opsL.getD j.toNat "")):=by obtain ⟨n,rfl⟩:=i4 h0;rw [eQ];exact ur n (Int.ofNat_lt.mp h7)
end FA
namespace L2
open PySem PyProof.Rows
variable {H:Hp} {k:Int}
theorem g9{A:Around}{k n:Nat}(h:n<=64)(hr:Room k A):A.units+n<cLine:=Nat.lt_of_le_of_lt (Nat.add_le_add_left h _) hr.units
theorem j3{xs:List V}(h:0<=k):cL xs none (some k)=xs.take k.toNat:=by
 obtain ⟨n,rfl⟩:=i4 h;unfold cL;rw [HT.kl,HT.gn,List.drop_zero,eQ,Nat.sub_zero]
 by_cases hn:n<=xs.length
 ·rw [sX hn]
 ·rw [v5 Jn,fQ,sY Jn]
theorem dZ{xs:List V}(h:0<=k):cL xs (some k) none=xs.drop k.toNat:=by
 obtain ⟨n,rfl⟩:=i4 h;unfold cL;rw [HT.kl,HT.gn,eQ]
 by_cases hn:n<=xs.length
 ·rw [sX hn,sY Jo]
 ·rw [v5 Jn,v6 (zq9 _),v6 Jn];simp
theorem jO{xs:List V}{l:Int}(h:0<=k)(h2:0<=l):cL xs (some k) (some l)=(xs.take l.toNat).drop k.toNat:=by
 obtain ⟨n,rfl⟩:=i4 h;obtain ⟨m,rfl⟩:=i4 h2;unfold cL;rw [HT.gn,HT.gn,eQ,eQ]
 by_cases hn:n<=xs.length
 ·rw [sX hn]
  by_cases hm:m<=xs.length
  ·rw [sX hm,List.drop_take]
  ·rw [v5 Jn,sY Jo,sY Jn]
 ·rw [v5 (show xs.length<=n by omega),v6 (zq9 _),v6 (by rw [gh];omega)];simp
section
variable {K:W.Frag} {te:TE} {ci:List Nat} {σ:St} {acc:Addr} {Q:Hp->Prop} {H1:Hp} {a:Addr} {xs:List V}
theorem gD{α:Type}(xs:List α):xs.filter (fun _=>true)=xs:=by simp
theorem mG(f:V->V)(hz:xs.length<=sizeLine)(hl:SqL K H1 a xs)(hacc:H1 acc=none)(hf:∀x∈xs,∀H Q',Same H1 H->Q' (f x) H->te (b8 [some x] ci σ) H Q')
  (q:Q (upd H1 acc (.lst (xs.map f)))):cg (Itl K a) (bD 1) oX te 1 ci σ acc Q (upd H1 acc (.lst [])):=
 qc (fun _=>true) f hz hl hacc (fun _ _ _ _ _ h=>h) (fun x hm H Q' s _ h=>hf x hm H Q' s h) (by rw [gD];exact q)
theorem eV{n:Nat}(f:Nat->V)(hz:n<=sizeLine)(hacc:H1 acc=none)(hf:∀i:Nat,i<n->∀H Q',Same H1 H->Q' (f i) H->te (b8 [some (.int (i:Int))] ci σ) H Q')
 (q:Q (upd H1 acc (.lst ((List.range n).map f)))):cg (Itr 0 n) (bD 1) oX te 1 ci σ acc Q (upd H1 acc (.lst [])):=by
 refine qd (fun _=>true) (fun i=>f i.toNat) hz hacc (fun _ _ _ _ _ h=>h) (fun i hi H Q' s _ h=>?_) ?_
 ·rw [sJ] at h ⊢;rw [eQ] at h;exact hf i hi H Q' s h
 ·rw [gD];have e:(fun i:Nat=>f (0+(i:Int)).toNat)=f:=by funext i;rw [sJ,eQ]
  rw [e];exact q
end
structure TSame(H H':Hp):Prop where
 tup:∀b xs,H b=some (.tup xs)->H' b=some (.tup xs)
 frz:∀b o u,H b=some (.frz o u)->H' b=some (.frz o u)
theorem Same.ts{H':Hp}(s:Same H H'):TSame H H':=⟨fun b xs e=>s b _ e,fun b o u e=>s b _ e⟩
theorem TSame.trans{H1 H2:Hp}(a:TSame H H1)(b:TSame H1 H2):TSame H H2:=⟨fun c xs e=>b.tup c xs (a.tup c xs e),fun c o u e=>b.frz c o u (a.frz c o u e)⟩
theorem TSame.updL{p:Addr}{ys:List V}{o:HO}(h:H p=some (.lst ys)):TSame H (upd H p o):=
 ⟨fun b xs e=>by rw [aE (kc e h (by intro z;cases z))];exact e,fun b o u e=>by rw [aE (kc e h (by intro z;cases z))];exact e⟩
theorem TSame.seqT{K:W.Frag}{H':Hp}{a:Addr}{xs:List V}(e:TSame H H')(h:SqT K H a xs):SqT K H' a xs:=by
 rcases h with (h | ⟨o,h⟩) | h
 ·exact .inl (.inl (e.tup _ _ h))
 ·exact .inl (.inr ⟨o,e.frz _ _ _ h⟩)
 ·exact .inr h
end L2
namespace FA
open PySem L2
def kg(m:Int)(ns:List Str)(w:Int):FB.Opd:=if 0<m % 3/\¬ns=[] then .box (gc (m / 3) ns) else .word (m / 3 % (1 * 2 ^ w.toNat))
theorem lM{m:Int}{ns:List Str}{w:Int}:(kg m ns w).v=ji m ns w:=by
 unfold kg ji
 split<;>rfl
def di(m:Int)(ns:List Str)(w:Int):FB.Deed:=
 if m % 9=0\/ns=[] then .tell (kg (m / 16) ns w)
 else if m % 9=1 then .copy (gc (m / 7) ns) (kg (m / 16) ns w)
 else .op (opsL.getD (m % 9-2).toNat "") (gc (m / 7) ns) (kg (m / 16) ns w) (kg (m / 1009) ns w)
theorem oj{m:Int}{ns:List Str}{w:Int}:(di m ns w).vs=jS m ns w:=by
 unfold di jS
 split
 ·simp only [FB.Deed.vs,lM]
 ·split
  ·simp only [FB.Deed.vs,lM]
  ·simp only [FB.Deed.vs,lM]
theorem fU{m:Int}{ns:List Str}{w:Int}:(di m ns w).fine:=by
 unfold di
 split
 ·trivial
 ·split
  ·trivial
  ·show opsL.getD (m % 9-2).toNat ""∈FB.opsL;have h0:0<=m % 9:=cB _ Jm;have h1:m % 9<9:=d4 _ Jm;have h:∀n:Nat,n<7->opsL.getD n ""∈FB.opsL:=by decide +kernel
   by_cases h2:m % 9-2<7
   ·exact h _ Jn
   ·exact absurd h1 Jn
end FA
namespace L2
open PySem PySem.Spec PyProof.Rows
section
variable {K:W.Frag} {tt:TT} {te:TE} {ci:List Nat} {σ:St} {acc:Addr} {Q:Hp->Prop} {H1:Hp} {a:Addr} {xs:List V}
end
end L2
namespace FD
open PySem L2 PyProof.Rows
end FD
namespace L2
open PySem PyProof.Rows
theorem Paired.take{α β:Type}{F:α->β->Prop}:∀{l₁:List α} {l₂:List β} (n:Nat),Paired F l₁ l₂->Paired F (l₁.take n) (l₂.take n)
 |_,_,0,_=>by rw [List.take_zero,List.take_zero];exact .nil
 |_,_,_+1,.nil=>.nil
 |_,_,n+1,.cons h t=>.cons h (Paired.take n t)
theorem Paired.drop{α β:Type}{F:α->β->Prop}:∀{l₁:List α} {l₂:List β} (n:Nat),Paired F l₁ l₂->Paired F (l₁.drop n) (l₂.drop n)
 |_,_,0,h=>h
 |_,_,_+1,.nil=>.nil
 |_,_,n+1,.cons _ t=>Paired.drop n t
end L2
namespace FG
open PySem L2 PyProof.Rows
end FG
namespace FS
open PySem L2 FB PyProof.Rows
inductive Stm where
 |deed (d:Deed)
 |ifs (n:Str) (ones others:List Stm)
 |whl (n:Str) (rows:List Stm)
variable {H H':Hp} {f:List Addr}
mutual
inductive StmV (K:W.Frag) (H:Hp):V->Stm->List Addr->Prop where
 |deed {q:Addr} {d:Deed}:d.fine->SqT K H q d.vs->StmV K H (.ref q) (.deed d) []
 |ifs {q a b:Addr} {n:Str} {xs ys:List V} {ones others:List Stm} {f g:List Addr}:SqT K H q [.str "if",.str n,.ref a,.ref b]->H a=some (.lst xs)->H b=some (.lst ys)->StmsV K H xs ones f->StmsV K H ys others g->
   StmV K H (.ref q) (.ifs n ones others) (a::b::(f++g))
 |whl {q a:Addr} {n:Str} {xs:List V} {rows:List Stm} {f:List Addr}:SqT K H q [.str "while",.str n,.ref a]->H a=some (.lst xs)->StmsV K H xs rows f->StmV K H (.ref q) (.whl n rows) (a::f)
inductive StmsV (K:W.Frag) (H:Hp):List V->List Stm->List Addr->Prop where
 |nil:StmsV K H [] [] []
 |cons {x:V} {s:Stm} {xs:List V} {ss:List Stm} {f g:List Addr}:StmV K H x s f->StmsV K H xs ss g->StmsV K H (x::xs) (s::ss) (f++g)
end
def Kept(fp:List Addr)(H H':Hp):Prop:=∀a∈fp,∀o,H a=some o->H' a=some o
theorem Kept.left{g:List Addr}(h:Kept (f++g) H H'):Kept f H H':=fun a ha=>h a (jx _ ha)
theorem Kept.right{g:List Addr}(h:Kept (f++g) H H'):Kept g H H':=fun a ha=>h a (d8 _ ha)
theorem Kept.tail{x:Addr}{g:List Addr}(h:Kept (x::g) H H'):Kept g H H':=fun a ha=>h a (bH _ ha)
theorem Kept.of{fp:List Addr}(s:Same H H'):Kept fp H H':=fun a _ o e=>s a o e
theorem Kept.upd{fp:List Addr}{p:Addr}{o:HO}(h:p∉fp):Kept fp H (upd H p o):=fun a ha u e=>by rw [aE (fun z=>h (by rw [<- z];exact ha))];exact e
variable {K:W.Frag}
mutual
theorem StmV.keep(t:TSame H H'):∀{x:V} {s:Stm} {f:List Addr},StmV K H x s f->Kept f H H'->StmV K H' x s f
 |_,_,_,.deed hf h,_=>.deed hf (t.seqT h)
 |_,_,_,.ifs (a:=a) (b:=b) h ha hb h1 h2,k=>.ifs (t.seqT h) (k a Jo _ ha) (k b Jo _ hb) (StmsV.keep t h1 k.tail.tail.left) (StmsV.keep t h2 k.tail.tail.right)
 |_,_,_,.whl (a:=a) h ha h1,k=>.whl (t.seqT h) (k a Jo _ ha) (StmsV.keep t h1 k.tail)
theorem StmsV.keep(t:TSame H H'):∀{xs:List V} {ss:List Stm} {f:List Addr},StmsV K H xs ss f->Kept f H H'->StmsV K H' xs ss f
 |_,_,_,.nil,_=>.nil
 |_,_,_,.cons h1 h2,k=>.cons (StmV.keep t h1 k.left) (StmsV.keep t h2 k.right)
end
theorem StmsV.same{xs:List V}{ss:List Stm}(h:StmsV K H xs ss f)(s:Same H H'):StmsV K H' xs ss f:=h.keep s.ts (Kept.of s)
theorem StmV.same{x:V}{s:Stm}(h:StmV K H x s f)(sm:Same H H'):StmV K H' x s f:=h.keep sm.ts (Kept.of sm)
theorem StmsV.length:∀{xs:List V} {ss:List Stm} {f:List Addr},StmsV K H xs ss f->xs.length=ss.length
 |_,_,_,.nil=>rfl
 |_,_,_,.cons _ h=>by rw [cF,cF,StmsV.length h]
theorem StmsV.snoc{y:V}{r:Stm}{g:List Addr}(hy:StmV K H y r g):∀{xs:List V} {ss:List Stm} {f:List Addr},StmsV K H xs ss f->StmsV K H (xs++[y]) (ss++[r]) (f++g)
 |_,_,_,.nil=>by have:=StmsV.cons hy StmsV.nil;rw [gg] at this;exact this
 |_,_,_,.cons h1 h2=>by rw [mh];exact .cons h1 (StmsV.snoc hy h2)
mutual
theorem StmV.tracked:∀{x:V} {s:Stm} {f:List Addr},StmV K H x s f->∀a∈f,∃zs,H a=some (.lst zs)
 |_,_,_,.deed _ _,a,ha=>by cases ha
 |_,_,_,.ifs (f:=f) (g:=g) h ha hb h1 h2,c,hc=>by
  rcases zq4.mp hc with rfl | hc
  ·exact ⟨_,ha⟩
  rcases zq4.mp hc with rfl | hc
  ·exact ⟨_,hb⟩
  rcases zq10.mp hc with hc | hc
  ·exact StmsV.tracked h1 c hc
  ·exact StmsV.tracked h2 c hc
 |_,_,_,.whl h ha h1,c,hc=>by
  rcases zq4.mp hc with rfl | hc
  ·exact ⟨_,ha⟩
  ·exact StmsV.tracked h1 c hc
theorem StmsV.tracked:∀{xs:List V} {ss:List Stm} {f:List Addr},StmsV K H xs ss f->∀a∈f,∃zs,H a=some (.lst zs)
 |_,_,_,.nil,a,ha=>by cases ha
 |_,_,_,.cons h1 h2,a,ha=>by
  rcases zq10.mp ha with ha | ha
  ·exact StmV.tracked h1 a ha
  ·exact StmsV.tracked h2 a ha
end
theorem StmsV.get:∀{xs:List V} {ss:List Stm} {f:List Addr} {i:Nat} {x:V},StmsV K H xs ss f->xs[i]?=some x->∃s g,ss[i]?=some s/\StmV K H x s g/\∀a∈g,a∈f
 |_,_,_,_,_,.nil,e=>by simp at e
 |_,_,_,0,_,.cons h _,e=>by simp at e;subst e;exact zAA _ _ rfl h fun a ha=>jx _ ha
 |_,_,_,i+1,x,.cons _ t,e=>by obtain ⟨s,g,h1,h2,h3⟩:=StmsV.get (i:=i) (x:=x) t (by simpa using e);exact zAA s g (by simpa using h1) h2 fun a ha=>d8 _ (h3 a ha)
theorem iz{α:Type}{l₁ l₂:List α}(h1:l₁.Nodup)(h2:l₂.Nodup)(h:∀a∈l₁,a∉l₂):(l₁++l₂).Nodup:=by rw [zq74];exact zAB h1 h2 (fun a ha b hb e=>h a ha (by rw [e];exact hb))
end FS
namespace FP
open PySem L2 FB FS FA PyProof.Rows
variable {H:Hp}
inductive Kd where
 |all | iff | whl | els
 deriving DecidableEq
def Kd.str:Kd->Str
 | .all=>"all"
 | .iff=>"if"
 | .whl=>"while"
 | .els=>"else"
structure Ent where
 kind:Kd
 rows:List Stm
 name:Str
 ones:List Stm
def bR(e:Ent):Stm:=match e.kind with
 | .whl=>.whl e.name e.rows
 | .iff=>.ifs e.name e.rows []
 |_=>.ifs e.name e.ones e.rows
def Ent.add(e:Ent)(r:Stm):Ent:={e with rows:=e.rows++[r]}
def iu(r:Stm):List Ent->List Ent
 | []=>[]
 |e::es=>e.add r::es
def dh:List Ent->List Ent
 |e::e2::es=>e2.add (bR e)::es
 |es=>es
theorem br{e e2:Ent}{es:List Ent}:(dh (e::e2::es)).length=es.length+1:=rfl
def bC:List Ent->List Stm
 | []=>[]
 | [e]=>e.rows
 |e::e2::es=>bC (e2.add (bR e)::es)
termination_by es=>es.length
def kd3(j:Int):Kd:=if j=1\/j=-2 then .whl else .iff
def cD(names:List Str)(w:Int)(most:Int)(k:Nat)(c:Int)(st:List Ent×Int):List Ent×Int:=
 if cJ c k % 12<2/\1<st.1.length then
  (match st.1 with
   |e::es=>if cJ c k % 12=0/\e.kind=.iff then ⟨.els,[],e.name,e.rows⟩::es else dh st.1
   | []=>[],st.2)
 else if st.2<most then
  (if cJ c k % 12<5/\st.1.length<9/\¬names=[] then ⟨kd3 (cJ c k % 12-2),[],gc (cJ c k / 12) names,[]⟩::st.1 else iu (.deed (di (cJ c k / 12) names w)) st.1,st.2+1)
 else st
def bY(names:List Str)(w most:Int):List Int->Nat->List Ent×Int->List Ent×Int
 | [],_,st=>st
 |c::cs,k,st=>bY names w most cs (k+1) (cD names w most k c st)
theorem iJ{names:List Str}{w most:Int}{c:Int}:∀{cs:List Int} {k:Nat} {st:List Ent×Int},bY names w most (cs++[c]) k st=cD names w most (k+cs.length) c (bY names w most cs k st)
 | [],k,st=>rfl
 |d::cs,k,st=>by show bY names w most (cs++[c]) (k+1) _=_;rw [iJ,cF,show k+1+cs.length=k+(cs.length+1) by omega];rfl
def start0:List Ent×Int:=([⟨.all,[],"",[]⟩],0)
def eG(cs:List Int)(names:List Str)(w most:Int):List Stm:=bC (bY names w most cs 0 start0).1
variable {K:W.Frag}
def EntV(K:W.Frag)(H:Hp)(x:V)(e:Ent)(g:List Addr):Prop:=∃(q r o:Addr)(ys zs:List V)(fr fo:List Addr),x=.ref q/\SqT K H q [.str e.kind.str,.ref r,.str e.name,.ref o]/\H r=some (.lst ys)/\StmsV K H ys e.rows fr/\H o=some (.lst zs)/\StmsV K H zs e.ones fo/\g=r::o::(fr++fo)
theorem EntV.keep{H':Hp}{x:V}{e:Ent}{g:List Addr}(t:TSame H H')(h:EntV K H x e g)(k:Kept g H H'):EntV K H' x e g:=by obtain ⟨q,r,o,ys,zs,fr,fo,ex,hq,hr,h1,ho,h2,rfl⟩:=h;exact zBF q r o ys zs fr fo ex (t.seqT hq) (k r Jo _ hr) (h1.keep t k.tail.tail.left) (k o Jo _ ho) (h2.keep t k.tail.tail.right) rfl
inductive StkV (K:W.Frag) (H:Hp):List V->List Ent->List Addr->Prop where
 |nil:StkV K H [] [] []
 |snoc {xs:List V} {es:List Ent} {f g:List Addr} {x:V} {e:Ent}:StkV K H xs es f->EntV K H x e g->StkV K H (xs++[x]) (e::es) (g++f)
theorem StkV.keep{H':Hp}(t:TSame H H'):∀{xs:List V} {es:List Ent} {f:List Addr},StkV K H xs es f->Kept f H H'->StkV K H' xs es f
 |_,_,_,.nil,_=>.nil
 |_,_,_,.snoc h1 h2,k=>.snoc (StkV.keep t h1 k.right) (h2.keep t k.left)
theorem StkV.length:∀{xs:List V} {es:List Ent} {f:List Addr},StkV K H xs es f->xs.length=es.length
 |_,_,_,.nil=>rfl
 |_,_,_,.snoc h _=>by rw [cf,cF,StkV.length h];rfl
theorem EntV.tracked{x:V}{e:Ent}{g:List Addr}(h:EntV K H x e g):∀a∈g,∃zs,H a=some (.lst zs):=by
 obtain ⟨q,r,o,ys,zs,fr,fo,ex,hq,hr,h1,ho,h2,rfl⟩:=h;intro a ha;rcases zq4.mp ha with rfl | ha
 ·exact ⟨_,hr⟩
 rcases zq4.mp ha with rfl | ha
 ·exact ⟨_,ho⟩
 rcases zq10.mp ha with ha | ha
 ·exact h1.tracked a ha
 ·exact h2.tracked a ha
theorem StkV.tracked:∀{xs:List V} {es:List Ent} {f:List Addr},StkV K H xs es f->∀a∈f,∃zs,H a=some (.lst zs)
 |_,_,_,.nil,a,ha=>by cases ha
 |_,_,_,.snoc h1 h2,a,ha=>by
  rcases zq10.mp ha with ha | ha
  ·exact h2.tracked a ha
  ·exact StkV.tracked h1 a ha
theorem StkV.inv{xs:List V}{e:Ent}{es:List Ent}{f:List Addr}(h:StkV K H xs (e::es) f):∃xs' x f' g,xs=xs'++[x]/\f=g++f'/\StkV K H xs' es f'/\EntV K H x e g:=by
 cases h with
 |snoc h1 h2=>exact zAN _ _ _ _ (zAG rfl rfl h1 h2)
theorem eS{α:Type}{xs:List α}{x:α}:atI (xs++[x]) (-1)=some x:=by
 unfold atI ixN;rw [zq0 Jm,zq1 (by simp;omega)];have e:(-1+((xs++[x]).length:Int)).toNat=xs.length:=by rw [cf,gi];omega
 rw [e];simp
structure cI(K:W.Frag)(H0 H:Hp)(S:Addr)(es:List Ent)(B:Nat):Prop where
 same:Same H0 H
 at_:∃xs f,H S=some (.lst xs)/\StkV K H xs es f/\(S::f).Nodup/\∀a∈S::f,H0 a=none
 few:∀e∈es,e.rows.length<=B
theorem nj{H0 H:Hp}{S q r o:Addr}{xs zs:List V}{es:List Ent}{f fo:List Addr}{kind:Kd}{name:Str}{ones:List Stm}{B:Nat}(sm:Same H0 H)(hS:H S=some (.lst xs))(hK:StkV K H xs es f)(hr:H r=some (.lst []))(ho:H o=some (.lst zs))(hz:StmsV K H zs ones fo)
  (hq:SqT K H q [.str kind.str,.ref r,.str name,.ref o]) (nd:(S::((r::o::fo)++f)).Nodup) (fr:∀a∈S::((r::o::fo)++f),H0 a=none) (few:∀e∈es,e.rows.length<=B) :
  cI K H0 (upd H S (.lst (xs++[.ref q]))) S (⟨kind,[],name,ones⟩::es) B:=by
 have nS:=(zq27.mp nd).1;have tt:TSame H (upd H S (.lst (xs++[V.ref q]))):=TSame.updL hS;refine ⟨sm.updM (fr S Jo),zAC _ ((r::o::([]++fo))++f) ae (.snoc (hK.keep tt (Kept.upd fun z=>nS (by simp [z]))) (zBF q r o ([]) zs ([]) fo rfl (tt.seqT hq) ?_ .nil ?_ (hz.keep tt (Kept.upd fun z=>nS (by simp [z]))) rfl)) nd fr,fun e he=>?_⟩
 ·rw [aE (fun z=>nS (by rw [<- z];simp))];exact hr
 ·rw [aE (fun z=>nS (by rw [<- z];simp))];exact ho
 ·rcases zq4.mp he with z | z
  ·subst z;exact eC _
  ·exact few e z
theorem wM{H:Hp}{S:Addr}{xs:List V}{c:Prop}[Decidable c]{k:Int}{A B:Prop}(hx:SqL K H S xs)(hA:c->k<xs.length->A)(hB:¬(c/\k<xs.length)->B):
  if decide c=true then ∃ys,(SqL K H S ys\/SqT K H S ys)/\if decide (k<(ys.length:Int))=true then A else B else B:=by
 by_cases h:c
 ·rw [zq5 h,zq1 rfl];refine zn xs (.inl hx) ?_
  by_cases h2:k<(xs.length:Int)
  ·rw [zq5 h2,zq1 rfl];exact hA h h2
  ·rw [zq6 h2,zq0 zq8];exact hB fun z=>h2 z.2
 ·rw [zq6 h,zq0 zq8];exact hB fun z=>h z.1
theorem AO{H:Hp}{S T:Addr}{xs ts:List V}{c:Prop}[Decidable c]{k l:Int}{A B:Prop}(hx:SqL K H S xs)(ht:SqL K H T ts)(hA:c->(xs.length:Int)<k->l<ts.length->A)(hB:¬(c/\(xs.length:Int)<k/\l<ts.length)->B):
  if decide c=true then ∃ys,(SqL K H S ys\/SqT K H S ys)/\if decide ((ys.length:Int)<k)=true then ∃zs,(SqL K H T zs\/SqT K H T zs)/\if decide (l<(zs.length:Int))=true then A else B else B else B:=by
 by_cases h:c
 ·rw [zq5 h,zq1 rfl];refine zn xs (.inl hx) ?_
  by_cases h2:(xs.length:Int)<k
  ·rw [zq5 h2,zq1 rfl];refine zn ts (.inl ht) ?_
   by_cases h3:l<(ts.length:Int)
   ·rw [zq5 h3,zq1 rfl];exact hA h h2 h3
   ·rw [zq6 h3,zq0 zq8];exact hB fun z=>h3 z.2.2
  ·rw [zq6 h2,zq0 zq8];exact hB fun z=>h2 z.2.1
 ·rw [zq6 h,zq0 zq8];exact hB fun z=>h z.1
theorem kd_if{k:Kd}:(k.str="if")↔k=.iff:=by cases k<;>decide +kernel
theorem pP{H:Hp}{S q:Addr}{xs:List V}{c:Prop}[Decidable c]{k:Kd}{r o:Addr}{n:Str}{A B:Hp->Prop}(hx:SqL K H S (xs++[.ref q]))(hq:SqT K H q [.str k.str,.ref r,.str n,.ref o])(hA:c->k=.iff->A H)(hB:¬(c/\k=.iff)->B H):
  if decide c=true then ∃xs v,SqL K H S xs/\atI xs (-1)=some v/\xH K v (V.int 0) H fun x H1=>rEq x (V.str "if") H1 fun x H'=>∃k,x=V.bl k/\if k=true then A H' else B H' else B H:=by
 by_cases h:c
 ·rw [zq5 h,zq1 rfl];refine zAA _ _ hx eS ?_;rw [vx];refine zAA _ _ hq rfl ?_;show lU (.str k.str) (.str "if")=true/\∃k_1,V.bl (decide (V.str k.str=V.str "if"))=V.bl k_1/\_;refine ⟨rfl,zn _ rfl ?_⟩
  by_cases hk:k=.iff
  ·rw [zq5 (congrArg V.str (kd_if.mpr hk)),zq1 rfl];exact hA h hk
  ·rw [zq6 (fun z=>hk (kd_if.mp (V.str.inj z))),zq0 zq8];exact hB fun z=>hk z.2
 ·rw [zq6 h,zq0 zq8];exact hB fun z=>h z.1
theorem x6{j:Int}(h0:-2<=j)(h3:j<3):atI [V.str "if",V.str "while",V.str "if"] j=some (.str (kd3 j).str):=by
 have h:j=-2\/j=-1\/j=0\/j=1\/j=2:=by omega
 rcases h with rfl | rfl | rfl | rfl | rfl<;>rfl
end FP
namespace FS
open PySem L2 FB PyProof.Rows
theorem jj{f k:Str}(h:f∈opsL)(hk:opsL.contains k=false):¬f=k:=by rintro rfl;rw [List.contains_eq_mem,decide_eq_false_iff_not] at hk;exact hk h
theorem vf{K:W.Frag}{H:Hp}{q:Addr}{d:Deed}{k:Str}{Z:V->Hp->Prop}(hf:d.fine)(hq:SqT K H q d.vs)(h1:opsL.contains k=false)(h2:¬("tell":Str)=k) (h3:¬("copy":Str)=k) (h:Z (.bl false) H):∃xs v,SqT K H q xs/\atI xs 0=some v/\rEq v (.str k) H Z:=by
 cases d with
 |tell a=>exact zAC _ _ hq rfl rfl (by rw [zq6 (fun z=>h2 (V.str.inj z))];exact h)
 |copy n a=>exact zAC _ _ hq rfl rfl (by rw [zq6 (fun z=>h3 (V.str.inj z))];exact h)
 |op f n a b=>exact zAC _ _ hq rfl rfl (by rw [zq6 (fun z=>jj hf h1 (V.str.inj z))];exact h)
mutual
def Stm.deep:Stm->Nat
 | .deed _=>0
 | .ifs _ a b=>max (aY a) (aY b)+1
 | .whl _ a=>aY a+1
def aY:List Stm->Nat
 | []=>0
 |s::ss=>max s.deep (aY ss)
end
mutual
def Stm.many:Stm->Nat
 | .deed _=>1
 | .ifs _ a b=>aJ a+aJ b+1
 | .whl _ a=>aJ a+1
def aJ:List Stm->Nat
 | []=>0
 |s::ss=>s.many+aJ ss
end
def Opd.good(ns:List Str)(w:Int):Opd->Prop
 | .box n=>n∈ns
 | .word i=>0<=i/\i<2 ^ w.toNat
def Deed.good(ns:List Str)(w:Int):Deed->Prop
 | .tell a=>Opd.good ns w a
 | .copy d a=>d∈ns/\Opd.good ns w a
 | .op f d a b=>f∈opsL/\d∈ns/\Opd.good ns w a/\Opd.good ns w b
mutual
def Stm.good(ns:List Str)(w:Int):Stm->Prop
 | .deed d=>Deed.good ns w d
 | .ifs n a b=>n∈ns/\c5 ns w a/\c5 ns w b
 | .whl n a=>n∈ns/\c5 ns w a
def c5(ns:List Str)(w:Int):List Stm->Prop
 | []=>True
 |s::ss=>s.good ns w/\c5 ns w ss
end
theorem jZ(s:Stm):1<=s.many:=by cases s<;>simp [Stm.many]
theorem gK(ss:List Stm):ss.length<=aJ ss:=by
 induction ss with
 |nil=>simp [aJ]
 |cons s ss ih=>rw [aJ,cF];have:=jZ s;omega
theorem jY{s:Stm}{ss:List Stm}(h:s∈ss):s.many<=aJ ss:=by
 induction ss with
 |nil=>cases h
 |cons x xs ih=>
  rw [aJ];rcases zq4.mp h with z | z
  ·subst z;omega
  ·have:=ih z;omega
theorem fA{s:Stm}{ss:List Stm}(h:s∈ss):s.deep<=aY ss:=by
 induction ss with
 |nil=>cases h
 |cons x xs ih=>
  rw [aY];rcases zq4.mp h with z | z
  ·subst z;omega
  ·have:=ih z;omega
theorem eY{a b:List Stm}:aY (a++b)=max (aY a) (aY b):=by
 induction a with
 |nil=>simp [aY]
 |cons s ss ih=>rw [sZ,aY,aY,ih,Nat.max_assoc]
theorem cm{a b:List Stm}:aJ (a++b)=aJ a+aJ b:=by
 induction a with
 |nil=>simp [aJ]
 |cons s ss ih=>rw [sZ,aJ,aJ,ih];omega
theorem goodL_append{ns:List Str}{w:Int}{a b:List Stm}:c5 ns w (a++b)↔c5 ns w a/\c5 ns w b:=by
 induction a with
 |nil=>simp [c5]
 |cons s ss ih=>rw [sZ,c5,c5,ih];exact and_assoc.symm
end FS
namespace FP
open PySem L2 FB FS FA PyProof.Rows
theorem jT{m:Int}{ns:List Str}{w:Int}:Deed.good ns w (di m ns w):=by
 have og:∀k,Opd.good ns w (kg k ns w):=fun k=>by
  unfold kg
  split
  ·next h=>exact fh h.2
  ·have hp:(0:Int)<1 * 2 ^ w.toNat:=by rw [jz];exact Int.pow_pos Jm
   refine ⟨cB _ Jn,?_⟩;have:=d4 (k / 3) hp;rw [jz] at this ⊢;exact this
 unfold di
 split
 ·exact og _
 ·next h=>
  have hne:¬ns=[]:=fun z=>h (.inr z)
  split
  ·exact ⟨fh hne,og _⟩
  ·have hf:=fU (m:=m) (ns:=ns) (w:=w);unfold di at hf;rw [zq0 h,zq0 (by assumption)] at hf;exact zAG hf (fh hne) (og _) (og _)
structure tw(ns:List Str)(w:Int)(h:Nat)(e:Ent):Prop where
 d1:aY e.rows+h<=8
 d2:aY e.ones+h<=8
 g1:c5 ns w e.rows
 g2:c5 ns w e.ones
 nm:h≠0->e.name∈ns
def EsG(ns:List Str)(w:Int):List Ent->Prop
 | []=>True
 |e::es=>tw ns w es.length e/\EsG ns w es
def i6:List Ent->Nat
 | []=>0
 |e::es=>aJ e.rows+aJ e.ones+i6 es
def eX(es:List Ent):Nat:=i6 es+(es.length-1)
theorem jM{ns:List Str}{w:Int}{h:Nat}{e:Ent}(g:tw ns w (h+1) e):(bR e).good ns w/\(bR e).deep+h<=8/\(bR e).many<=aJ e.rows+aJ e.ones+1:=by
 have hn:=g.nm Jn;have h1:=g.d1;have h2:=g.d2;unfold bR
 cases e.kind
 ·exact zAB (zAB hn g.g2 g.g1) (by simp only [Stm.deep];omega) (by simp only [Stm.many];omega)
 ·exact zAB (zAB hn g.g1 trivial) (by simp only [Stm.deep,aY];omega) (by simp only [Stm.many,aJ];omega)
 ·exact zAB ⟨hn,g.g1⟩ (by simp only [Stm.deep];omega) (by simp only [Stm.many];omega)
 ·exact zAB (zAB hn g.g2 g.g1) (by simp only [Stm.deep];omega) (by simp only [Stm.many];omega)
theorem jA{ns:List Str}{w:Int}{h:Nat}{e:Ent}{s:Stm}(g:tw ns w h e)(hg:s.good ns w)(hd:s.deep+h<=8):tw ns w h (e.add s):=by have h1:=g.d1;refine ⟨?_,g.d2,goodL_append.mpr (zAB g.g1 hg trivial),g.g2,g.nm⟩;show aY (e.rows++[s])+h<=8;rw [eY,aY,aY];omega
theorem eW{ns:List Str}{w:Int}{e e2:Ent}{es:List Ent}(g:EsG ns w (e::e2::es)):EsG ns w (dh (e::e2::es))/\eX (dh (e::e2::es))<=eX (e::e2::es):=by obtain ⟨g1,g2,g3⟩:=g;obtain ⟨c1,c2,c3⟩:=jM (h:=es.length) g1;refine ⟨⟨jA g2 c1 c2,g3⟩,?_⟩;show i6 (e2.add (bR e)::es)+_<=i6 (e::e2::es)+_;simp only [i6,Ent.add,cm,aJ,dh,List.length_cons];omega
theorem eE{ns:List Str}{w:Int}:∀{es:List Ent},EsG ns w es->c5 ns w (bC es)/\aY (bC es)<=8/\aJ (bC es)<=eX es
 | [],_=>by rw [bC];exact zAB trivial (by simp [aY]) (by simp [aJ])
 | [e],g=>by
  rw [bC];have:=g.1.d1;exact zAB g.1.g1 (by simp at this;omega) (by simp only [eX,i6];omega)
 |e::e2::es,g=>by rw [bC];obtain ⟨h1,h2⟩:=eW g;obtain ⟨h3,h4,h5⟩:=eE (es:=e2.add (bR e)::es) h1;exact zAB h3 h4 (gf h5 h2)
termination_by es=>es.length
theorem lX{ns:List Str}{w most:Int}{k:Nat}{c:Int}{st:List Ent×Int}(g:EsG ns w st.1)(l1:1<=st.1.length)(l9:st.1.length<=9)(hc:(eX st.1:Int)<=st.2)(hm:st.2<=most):
  EsG ns w (cD ns w most k c st).1/\1<=(cD ns w most k c st).1.length/\(cD ns w most k c st).1.length<=9/\(eX (cD ns w most k c st).1:Int)<=(cD ns w most k c st).2/\(cD ns w most k c st).2<=most:=by
 obtain ⟨es,many⟩:=st;dsimp only at g l1 l9 hc hm;unfold cD;dsimp only
 split
 ·next h=>
  match es,h.2,g,l9,hc with
  |e::e2::es',_,g,l9,hc=>
   dsimp only
   split
   ·next hk=>
    refine zAH ⟨⟨?_,g.1.d1,trivial,g.1.g1,g.1.nm⟩,g.2⟩ Jo (by simpa using l9) ?_ hm
    ·have:=g.1.d1;simp only [aY];omega
    ·simp only [eX,i6,aJ,List.length_cons] at hc ⊢;omega
   ·obtain ⟨h1,h2⟩:=eW g;refine zAH h1 (by rw [br];omega) (by rw [br];simp at l9;omega) Jn hm
 ·split
  ·next h2=>
   dsimp only
   split
   ·next h3=>refine zAH ⟨⟨by simp only [aY];omega,by simp only [aY];omega,trivial,trivial,fun _=>fh h3.2.2⟩,g⟩ Jo (by simp;omega) ?_ Jn;simp only [eX,i6,aJ,List.length_cons] at hc ⊢;omega
   ·match es,l1,g,l9,hc with
    |e::es',_,g,l9,hc=>refine zAH ⟨jA g.1 jT (by simp only [Stm.deep];simp at l9;omega),g.2⟩ (by simp [iu]) (by simpa [iu] using l9) ?_ Jn;simp only [eX,i6,iu,Ent.add,cm,aJ,Stm.many,List.length_cons] at hc ⊢;omega
  ·exact zAH g l1 l9 hc hm
theorem iI{ns:List Str}{w most:Int}:∀{cs:List Int} {k:Nat} {st:List Ent×Int},EsG ns w st.1->1<=st.1.length->st.1.length<=9->(eX st.1:Int)<=st.2->st.2<=most->
  EsG ns w (bY ns w most cs k st).1/\(eX (bY ns w most cs k st).1:Int)<=most
 | [],_,_,g,_,_,hc,hm=>⟨g,by show (eX _:Int)<=_;exact Int.le_trans hc hm⟩
 |c::cs,k,st,g,l1,l9,hc,hm=>by obtain ⟨a1,a2,a3,a4,a5⟩:=lX (k:=k) (c:=c) g l1 l9 hc hm;show EsG ns w (bY ns w most cs (k+1) (cD ns w most k c st)).1/\(eX (bY ns w most cs (k+1) (cD ns w most k c st)).1:Int)<=most;exact iI a1 a2 a3 a4 a5
theorem lP{cs:List Int}{ns:List Str}{w most:Int}(h:0<=most):c5 ns w (eG cs ns w most)/\aY (eG cs ns w most)<=8/\(aJ (eG cs ns w most):Int)<=most:=by
 have z:EsG ns w start0.1:=⟨⟨by simp [start0,aY],by simp [start0,aY],trivial,trivial,fun z=>absurd rfl z⟩,trivial⟩
 obtain ⟨g,hc⟩:=iI (cs:=cs) (k:=0) (most:=most) z (by simp [start0]) (by simp [start0]) (by simp [start0,eX,i6,aJ]) (by simpa [start0] using h);obtain ⟨h1,h2,h3⟩:=eE g;exact zAB h1 h2 (by unfold eG;omega)
end FP
namespace L2
open PySem PySem.Spec PyProof.Rows
variable {H:Hp} {o:HO} {p:Addr}
def SameX(p:Addr)(H H':Hp):Prop:=∀c o,H c=some o->c≠p->H' c=some o
theorem SameX.trans{H1 H2:Hp}(a:SameX p H H1)(b:SameX p H1 H2):SameX p H H2:=fun c o e n=>b c o (a c o e n) n
theorem SameX.of{H':Hp}(s:Same H H'):SameX p H H':=fun c o e _=>s c o e
theorem SameX.upd:SameX p H (L2.upd H p o):=fun c u e n=>by rw [aE n];exact e
theorem SameX.free{c:Addr}{H':Hp}(s:SameX p H H')(hp:H' p=some o)(h:H' c=none):H c=none:=by
 cases e:H c with
 |none=>rfl
 |some u=>
  have n:c≠p:=fun z=>by subst z;rw [hp] at h;cases h
  rw [s c u e n] at h;cases h
theorem TSame.updI{C dx:Addr}{fs:List (Str×V)}(h:H p=some (.ins C dx fs)):TSame H (L2.upd H p o):=
 ⟨fun b xs e=>by rw [aE (fun z=>by rw [z,h] at e;cases e)];exact e,fun b u v e=>by rw [aE (fun z=>by rw [z,h] at e;cases e)];exact e⟩
end L2
namespace FS
open PySem L2 FB PyProof.Rows
def xC(wd:Int)(a b r:Addr):List (Str×V):=[("width",.int wd),("ins",.ref a),("boxes",.ref b),("rows",.ref r)]
structure ProgAt(K:W.Frag)(C:Addr)(H:Hp)(p:Addr)(wd:Int)(ins oth:List Str)(ss:List Stm)(a b r:Addr)(xs:List V)(f:List Addr):Prop where
 ob:∃dx,H p=some (.ins C dx (xC wd a b r))
 ia:H a=some (.lst (ins.map V.str))
 bx:H b=some (.lst ((ins++oth).map V.str))
 rs:H r=some (.lst xs)
 st:StmsV K H xs ss f
theorem ProgAt.same{K:W.Frag}{C:Addr}{H H':Hp}{p:Addr}{wd:Int}{ins oth:List Str}{ss:List Stm}{a b r:Addr}{xs:List V}{f:List Addr}(h:ProgAt K C H p wd ins oth ss a b r xs f)(s:Same H H'):ProgAt K C H' p wd ins oth ss a b r xs f:=
 ⟨let ⟨dx,e⟩:=h.ob;⟨dx,s _ _ e⟩,s _ _ h.ia,s _ _ h.bx,s _ _ h.rs,h.st.same s⟩
theorem c8{f:Str}{v:V}:∀{fs:List (Str×V)},(fs.map (·.1)).contains f=false->cW f v fs=fs++[(f,v)]
 | [],_=>rfl
 | (g,x)::r,h=>by
  rw [dX,List.contains_cons,Bool.or_eq_false_iff] at h;have n:¬g=f:=fun z=>by subst z;simp at h
  rw [show cW f v ((g,x)::r)=(if g=f then (g,v)::r else (g,x)::cW f v r) from rfl,zq0 n,c8 h.2];rfl
end FS
namespace K01M
theorem tb(x w:Nat):x / 2 ^ w % 2=(x.testBit w).toNat:=by
 rw [Nat.testBit_eq_decide_div_mod_eq];have h:x / 2 ^ w % 2=0\/x / 2 ^ w % 2=1:=by omega
 rcases h with h | h<;>simp [h]
end K01M
namespace FO
open PySem L2 K01M FB PyProof.Rows
abbrev ops:List Str:=FB.opsL
end FO
namespace FR
open PySem L2 FB FS FG FO PyProof.Rows
end FR
namespace L2
open PySem PySem.Spec PyProof.Rows
section
variable {K:W.Frag} {te:TE} {ci:List Nat} {σ:St} {acc:Addr} {Q:Hp->Prop} {H1:Hp} {a:Addr} {xs:List V}
end
theorem fL{c:TT}{tb:TS}{D:cG}{σ:St}{H:Hp}(Pv:St->Hp->Prop)(μ:St->Hp->Nat)(h0:Pv σ H)
  (hs:∀σ H,Pv σ H->c σ H fun b H1=>if b=true then ∃N:St->Hp->Prop,(∀σ' H',N σ' H'->∃m',m'<μ σ H/\m'=μ σ' H'/\Pv σ' H')/\tb {D with nx:=N,ct:=N,bk:=D.nx} σ H1 else D.nx σ H1):sg c tb D σ H:=by
 refine zn (fun m σ H=>m=μ σ H/\Pv σ H) (zn _ rfl h0) ?_;rintro m σ H ⟨rfl,p⟩;exact hs σ H p
end L2
namespace FW
open PySem L2 FB FS FG FO FR PyProof.Rows
section
variable {K:W.Frag} {H:Hp}
end
end FW
namespace FX
open PySem L2 FB FS FG FO FR FW PyProof.Rows
structure Nd where
 rd:List Str
 nm:Option Str
 ah:List Int
section
variable {n:Str} {N:List Nd} {v:Nat->Nat->Nat}
end
section
variable {S:List (List Str)}
end
end FX
namespace FX
open PySem L2 FB FS FG FO FR FW PyProof.Rows PySem.Spec
end FX
namespace L2
open PySem PySem.Spec PyProof.Rows
section
variable {X:Cx}
end
end L2
namespace GB
open PySem L2 FB FS FG FO FR FW FX PyProof.Rows
section
variable {K:W.Frag} {H:Hp}
def eqB(l l':List Stm):Bool:=@decide (l=l') (Classical.propDecidable _)
end
end GB
section
open PySem PySem.Spec PyProof.Rows
namespace HT
section
variable {prog:Program} {w:World} {A:Around} {E:Value->Shared->Prop} {s:Shared}
end
end HT
namespace L2
section
variable {X:Cx}
end
end L2
namespace L2
section
variable {X:Cx}
def zL:List V->Hp->VK->Prop:=fun xs H Q=>∃(a C dx:Addr)(fs:List (Str×V)),xs=[.ref a,.ref C]/\H a=some (.ins C dx fs)/\Q (.bl true) H
theorem nW:cv X (.builtin "isinstance") zL:=by
 intro pins s σ H xs us Q I r h;obtain ⟨a,C,dx,fs,rfl,ha,q⟩:=h;obtain ⟨u,v,rfl,ru,rv⟩:=sr r
 cases ru
 cases rv
 obtain ⟨_,_,_,hob,_⟩:=I.hok _ _ ha;refine W.isi_call (K:=X.K) (t:=.ref C) I.kIn (fun M=>(W.Looks.ld hob).andThen .now) ?_ (fun e=>by cases e) (zAA (.bl true) H I rfl q);unfold W.isIn;rw [show (Value.ref C==Value.ref C)=true from by simp,sL]
end
end L2
namespace L2
section
variable {prog:Program} {w:World} {A:Around} {E:Value->Shared->Prop} {s:Shared}
end
end L2
namespace L2
section
variable {X:Cx}
end
end L2
namespace L2
section
variable {prog:Program} {w:World} {A:Around} {E:Value->Shared->Prop} {s:Shared}
end
section
variable {X:Cx}
end
section
variable {prog:Program} {w:World} {A:Around} {E:Value->Shared->Prop} {s:Shared} {l I S:Addr} {vs:List Value} {ln:Nat->Nat} {dv:Value} {R:Result->Shared->Prop}
end
section
variable {X:Cx}
end
end L2
namespace L2
section
variable {X:Cx}
end
end L2
namespace L2
def gR(l:List Str)(x:Str):List Str:=if x∈l then l else l++[x]
def bB(ns:List Str):List Str:=ns.foldl gR []
theorem gS(ns:List Str)(x:Str):bB (ns++[x])=gR (bB ns) x:=by unfold bB;rw [List.foldl_append];rfl
theorem iE{l:List Str}{x y:Str}:y∈gR l x↔y∈l\/y=x:=by
 unfold gR
 split
 ·next h=>exact ⟨.inl,fun z=>z.elim id fun e=>by rw [e];exact h⟩
 ·rw [zq10,zq15]
theorem ee(ns:List Str):(∀y,y∈bB ns↔y∈ns)/\(bB ns).length<=ns.length/\((bB ns).length=ns.length↔ns.Nodup):=by
 rw [<- List.reverse_reverse ns];generalize ns.reverse=ms
 induction ms with
 |nil=>exact zAB (fun y=>Iff.rfl) (zq9 _) ⟨fun _=>sM,fun _=>rfl⟩
 |cons x m ih=>
  rw [t8];generalize m.reverse=l at ih ⊢;obtain ⟨h1,h2,h3⟩:=ih;rw [gS,cf,gi];refine zAB (fun y=>by rw [iE,h1,zq10,zq15]) ?_ ?_
  ·unfold gR;split
   ·omega
   ·rw [cf,gi];omega
  ·rw [zq74];unfold gR
   split
   ·next h=>refine ⟨fun e=>absurd e Jn,fun ⟨_,_,z⟩=>absurd rfl (z x ((h1 x).mp h) x (zq15.mpr rfl))⟩
   ·next h=>rw [cf,gi];refine ⟨fun e=>zAB (h3.mp Jn) Jo fun a ha b hb e2=>h ?_,fun ⟨z,_,_⟩=>by rw [h3.mpr z]⟩;rw [zq15.mp hb] at e2;rw [<- e2];exact (h1 a).mpr ha
section
variable {prog:Program} {w:World} {A:Around} {R:Result->Shared->Prop} {it:Addr} {fp wr:List Addr} {G:Array GenState->Array GenState->Prop} {n:Nat} {P:Nat->Value->Prop} {St:Nat->Shared->Prop}
def TxtSet(prog:Program)(w:World)(h:Heap)(c:Addr)(l:List Str):Prop:=h.SetOf (strKind prog w) c (fun x=>decide (x∈l)) l.length
theorem TxtSet.mv{h h':Heap}{c:Addr}{l:List Str}(z:TxtSet prog w h c l)(k:∀o,h.get? c=some o->h'.get? c=some o):TxtSet prog w h' c l:=
 let ⟨o,es,ep,t,e,r⟩:=z;(zAO o es ep t (k o e) r)
theorem kn(W:WalksS prog w A.in1 it fp wr G n P St){c:Addr}(hc:c∉fp){ns:List Str}(hn:ns.length=n)(hv:∀(i:Nat)v,P i v->∃x t,ns[i]?=some x/\v=.str x t)(hb:n+1<scanBound):
  ∀(k i:Nat)(s:Shared),k+i=n->St i s->TxtSet prog w s.heap c (bB (ns.take i))->(∀s',Moved (c::wr) G s s'->TxtSet prog w s'.heap c (bB ns)->R (.ok (.ret .none)) s')->
   codeAny (model prog w) A (.builtin "set.update.loop" ⟨[.ref c,.ref it],[]⟩) R s
 |0,i,s,hk,st,hS,q=>by
  obtain rfl:i=n:=by omega
  rw [show ns.take i=ns by rw [<- hn,fQ]] at hS;refine sN F.entry_set_update_loop ?_;rw [Around.under_plainId F.plain_set_update_loop _];refine zq7 (m:=pyNext (.ref it)) (W.done s _ _ st fun s1 mv=>cu (q s1 (mv.mono fun b hb=>bH _ hb) (hS.mv fun o e=>mv.heap c o (fun z=>hc (W.sub _ z)) e)))
 |k+1,i,s,hk,st,hS,q=>by
  refine sN F.entry_set_update_loop ?_;rw [Around.under_plainId F.plain_set_update_loop _];refine zq7 (m:=pyNext (.ref it)) (W.item i s _ _ Jn st fun v s1 hp st1 mv=>?_);obtain ⟨x,t,hx,rfl⟩:=hv i v hp;obtain ⟨hi,ex⟩:=zq17.mp hx;have hS1:=hS.mv (h':=s1.heap) fun o e=>mv.heap c o (fun z=>hc (W.sub _ z)) e;refine zq7 (m:=holding [Value.str x t] (setAdd c (.str x t))) (kJ ?_);unfold setAdd;refine kJ (zq7 ((strKind prog w).pyHash (k:=x) (strKind_is _ _ _ _) ?_));have le:=(ee (ns.take i)).2.1;rw [gh] at le;refine wpAny_setAddHashed_of (knd:=strKind prog w) (s:={s1 with toks:=s1.toks+1}) (strKind_is _ _ _ _) rfl hS1 Jn fun h2 sb hS2=>?_;have et:ns.take (i+1)=ns.take i++[x]:=by rw [fP hi,ex]
  have hS3:TxtSet prog w h2 c (bB (ns.take (i+1))):=by
   rw [et,gS];refine SetOf_congr hS2 (fun y=>?_) ?_
   ·rw [kK];simp only [Bool.or_eq_true,decide_eq_true_eq,iE]
   ·unfold gR
    by_cases z:x∈bB (ns.take i)
    ·rw [zq1 z,zq1 (zq5 z)]
    ·rw [zq0 z,zq0 (by simpa using z),cf,gi]
  refine cu ⟨plainId_quiet F.plain_set_update_loop _,kn W hc hn hv hb k (i+1) _ Jn (W.frame _ s1 _ _ st1 (v0 _) fun b hb o e=>?_) hS3 fun s3 mv3=>q s3 (Moved.trans W.gtrans ((mv.mono fun b hb=>bH _ hb).then_heap (v0 _) fun b o hb e=>?_) mv3)⟩
  ·exact (sb.2 b (fun z=>hc (by rw [<- z];exact hb))).trans e
  ·exact (sb.2 b (fun z=>hb (by rw [z];exact bV))).trans e
end
section
variable {prog:Program} {w:World} {A:Around} {E:Value->Shared->Prop} {s:Shared}
set_option maxHeartbeats 4000000 in
theorem qC{l:Addr}{items:Array Value}{ns:List Str}{Q:Value->Shared->Prop}(hh:A.handled=none)(hl:s.heap.IsList l items)(hv:∀(i:Nat)v,items[i]?=some v->∃x t,ns[i]?=some x/\v=.str x t)(hn:ns.length=items.size)(hb:items.size+1<scanBound)
  (q:∀(h':Heap)(tk:Nat),TxtSet prog w h' s.heap.objs.size (bB ns)->(∀b o,s.heap.get? b=some o->h'.get? b=some o)->Q (.ref s.heap.objs.size) {s with heap:=h',toks:=tk}) :
  wpAny (model prog w) A (call (.type "set") [.ref l]) Q E s:=by
 obtain ⟨c,tl,hmro⟩:=F.called_set.mro;have hmade:=F.called_set.made;have hsub:=F.called_set.sub;have h1:=F.called_set.notType;have h2:=F.called_set.canCreate;have hct:=F.typeCall_set_1 (.ref l);refine wpAny_call (codeAny_of_tree (show wpAny _ _ (callAny (.type "set") _) _ _ _ from cu ⟨Code.quiet_builtin _ Jk,sN F.entry_type_call ?_⟩));rw [Around.under_plain (weight_type_call_type "set" [.ref l] []) rfl]
 repeat (any_goals (first | assumption | wp_step))
 refine codeAny_mono (code_set_new_1 (.ref l) (E:=E) (Q₁:=fun v s1=>∃led:Bool,v=.ref s.heap.objs.size/\s1={s with heap:=s.heap.push {cls:=.type "set",dict:=none,data:=.set #[] 0 (.fresh 0 0 led)}}) fun led=>zn led rfl rfl) fun r s1 hr=>?_
 match r,hr with
 | .ok (.ret v),hr=>
  obtain ⟨led,rfl,rfl⟩:=hr;obtain ⟨o0,ho0⟩:∃o0:Obj,o0={cls:=.type "set",dict:=none,data:=.set #[] 0 (.fresh 0 0 led)}:=⟨_,rfl⟩
  rw [<- ho0];have hS:(s.heap.push o0).get? s.heap.objs.size=some o0:=er _ (by rw [ho0];rfl);have hT:Shared.TypeIs {s with heap:=s.heap.push o0} (.ref s.heap.objs.size) "set":=zn o0 hS (by rw [ho0])
  have hli:=F.called_set.init.lookup;have hbi:=F.called_set.init.bind (.ref s.heap.objs.size)
  repeat (any_goals (first | assumption | wp_step))
  refine codeAny_mono (codeAny_call_builtin (R:=wants (fun r s2=>r=.none/\∃h' tk,s2={s with heap:=h',toks:=tk}/\TxtSet prog w h' s.heap.objs.size (bB ns)/\∀b o,s.heap.get? b=some o->h'.get? b=some o) E) F.called_set.init.plain F.entry_set_init (check_set_init_1 hT ?_)) fun r2 s2 hr2=>?_
  ·obtain ⟨⟨oc,od,ot,os⟩,hol,hcl,nl,hdl⟩:=hl;replace hcl:oc=.type "list":=hcl;replace hdl:ot=.seq items nl:=hdl;subst hcl hdl;have hol2:(s.heap.push o0).get? l=some {cls:=.type "list",dict:=od,data:=.seq items nl,slots:=os}:=cz _ hol;have hsls:=F.sub_list_set;have hslf:=F.sub_list_frozenset;have hne:(Value.type "list"==Value.type "dict")=false:=by decide
   have hL:(s.heap.push o0).IsList l items:=zAD _ hol2 rfl ⟨nl,rfl⟩
   have zp:(s.heap.push o0).objs.size=s.heap.objs.size+1:=uY ..;subst ho0;unfold Builtin.«set.__init__» noKeywords Builtin.Frozenset.updateFrom;generalize hPI:pyIter=PI
   wp_walk
   subst hPI;refine wpAny_pyIter_list hL ?_;refine zq7 (wpAny_runValue ?_);have lt:l<s.heap.objs.size:=bP hol;refine kn ((Walks.list (by simp [hh]) _ l (by rw [zp];exact cZ (Nat.lt_succ_of_lt lt)) items).toS) (c:=s.heap.objs.size) (by
    rw [zp];intro z;rcases zq4.mp z with z | z
    ·exact absurd z (cZ (uZ _))
    ·exact absurd (zq15.mp z) (z8 lt)) hn hv hb items.size 0 _ rfl ⟨zAD _ (er _ rfl) rfl rfl,hL.push _⟩ ?_ ?_
   ·exact SetOf_congr ((setObjOf_fresh (knd:=strKind prog w) led).setOf (cz _ hS) (by unfold scanBound;omega)) (fun y=>by simp [bB]) rfl
   ·intro s3 mv hS3;obtain ⟨h3,g3,d3,tk3,os3⟩:=s3;obtain rfl:g3=s.gens:=mv.gens;obtain rfl:d3=s.drawn:=mv.drawn;obtain rfl:os3=s.os:=mv.os;refine cu ?_;refine cu ⟨rfl,zAA h3 tk3 rfl hS3 fun b o e=>?_⟩;have bl:=bP e;refine mv.heap b o ?_ (cz _ (cz _ e));rw [zp];intro z;rcases zq4.mp z with z | z
    ·exact absurd z (cZ bl)
    ·exact absurd (zq15.mp z) (cZ (Nat.lt_succ_of_lt bl))
  ·match r2,hr2 with
   | .ok (.ret v),hr2=>
    obtain ⟨rfl,h',tk,rfl,a1,a2⟩:=hr2
    repeat (any_goals (first | assumption | wp_step))
    exact q _ _ a1 a2
   | .error e,hr2=>exact hr2
 | .error e,hr=>exact hr
end
def km(p:Addr)(n:Nat):HO:=.ext fun h=>n<scanBound/\∃o es ep t,h.get? p=some o/\o.ExactSet/\o.data=.set es ep t/\t.fits es.size=true/\es.size=n
variable {X:Cx}
def vv(K:W.Frag):List V->Hp->VK->Prop:=fun xs H Q=>∃(a:Addr)(ns:List Str),xs=[.ref a]/\SqL K H a (ns.map V.str)/\ns.length<64/\∀p:Addr,H p=none->Q (.ref p) (upd H p (km p (bB ns).length))
theorem nZ(hc:X.calm=true):cv X (.type "set") (vv X.K):=by
 intro pins s σ H xs us Q I r h;obtain ⟨a,ns,rfl,hq,h64,q⟩:=h;obtain ⟨u,rfl,ru⟩:=dC r
 cases ru
 obtain ⟨its,rv,pl,_⟩:=I.list hq;have hl:=rv.length;rw [zq2] at hl;refine qC (I.ok.hd hc) pl.isList (ns:=ns) (fun i v hv=>?_) (by rw [df];omega) (by rw [df];unfold scanBound;omega) fun h' tk hS hk=>?_
 ·have hi:=(zq77.mp hv).1;rw [df] at hi;obtain ⟨x,hx⟩:∃x,ns[i]?=some x:=⟨_,dI Jn⟩
  obtain ⟨u,hu,t,rfl⟩:=rv.get (i:=i) (x:=.str x) (by rw [cA,hx];rfl);rw [wC,hu] at hv
  cases hv
  exact zAE x t hx rfl
 ·obtain ⟨o,es,ep,t,e1,e2,e3,e4,e5,e6,e7,e8⟩:=hS;have le:=(ee ns).2.1;exact zAA (.ref s.heap.objs.size) _ (I.laid (t':=tk) hk (zq9 _) (show ObjOk X.prog X.w _ h' _ (km s.heap.objs.size (bB ns).length) from zAB ⟨by unfold scanBound;omega,zAS o es ep t e1 e2 e3 e7 e8⟩ ⟨o,e1⟩ fun h1 h2 ⟨z,o,es,ep,t,y1,y2⟩ k=>⟨z,zAO o es ep t (k o y1) y2⟩)) rfl (q _ (I.hok.fresh (zq9 _)))
theorem yu{K:W.Frag}{a:Addr}{H:Hp}{Q:VK}:vv K [.ref a] H Q=∃ns:List Str,SqL K H a (ns.map V.str)/\ns.length<64/\∀p:Addr,H p=none->Q (.ref p) (upd H p (km p (bB ns).length)):=propext ⟨by rintro ⟨_,ns,e,q⟩;cases e;exact ⟨ns,q⟩,by rintro ⟨ns,q⟩;exact zAE a ns rfl q⟩
def vt:List V->Hp->VK->Prop:=fun xs H Q=>∃(p:Addr)(n:Nat),xs=[.ref p]/\H p=some (km p n)/\Q (.int n) H
theorem nY:cv X (.builtin "len") vt:=by
 intro pins s σ H xs us Q I r h;obtain ⟨p,n,rfl,e,q⟩:=h;obtain ⟨u,rfl,ru⟩:=dC r
 cases ru
 obtain ⟨⟨hn,o,es,ep,t,y1,y2,y3,y4,y5⟩,_⟩:=I.hok p _ e;unfold scanBound at hn;exact call_len_set y1 y2 y3 y4 Jn (zAA (.int n) H (I.tok _) ⟨_,by rw [y5]⟩ q)
theorem yn{p:Addr}{H:Hp}{Q:VK}:vt [.ref p] H Q=∃n:Nat,H p=some (km p n)/\Q (.int n) H:=propext ⟨by rintro ⟨_,n,e,q⟩;cases e;exact ⟨n,q⟩,by rintro ⟨n,q⟩;exact zAE p n rfl q⟩
end L2
end
namespace GQ
open PySem
def J(c:Nat):List (List Nat)->List Nat
 | []=>[]
 | [p]=>p
 |p::q::r=>p++c::J c (q::r)
theorem kN(c:Nat):∀ts:List Str,(Str.join ⟨#[c]⟩ ts).cps.toList=J c (ts.map fun t=>t.cps.toList)
 | []=>rfl
 | [p]=>rfl
 |p::q::r=>by show ((p.cps++#[c])++(Str.join ⟨#[c]⟩ (q::r)).cps).toList=_;rw [sO,sO,kN c (q::r)];show _=p.cps.toList++c::J c ((q::r).map fun t=>t.cps.toList);rw [mh];rfl
theorem mI{c:Nat}:∀{a b u v:List Nat},c∉a->c∉b->a++c::u=b++c::v->a=b/\u=v
 | [],[],u,v,_,_,h=>⟨rfl,by injection h⟩
 | [],y::b,u,v,_,hb,h=>by
  injection h with h1 _;exact absurd (by rw [h1];exact bV ..) hb
 |x::a,[],u,v,ha,_,h=>by
  injection h with h1 _;exact absurd (by rw [<- h1];exact bV ..) ha
 |x::a,y::b,u,v,ha,hb,h=>by injection h with h1 h2;obtain ⟨e1,e2⟩:=mI (fun z=>ha (bH _ z)) (fun z=>hb (bH _ z)) h2;exact ⟨by rw [h1,e1],e2⟩
theorem vb{c:Nat}{p q:List Nat}{r:List (List Nat)}:c∈J c (p::q::r):=d8 _ (bV ..)
theorem va{c:Nat}:∀{ps qs:List (List Nat)},ps≠[]->qs≠[]->(∀p∈ps,c∉p)->(∀p∈qs,c∉p)->J c ps=J c qs->ps=qs
 | [],_,h,_,_,_,_=>absurd rfl h
 |_,[],_,h,_,_,_=>absurd rfl h
 | [p],[q],_,_,_,_,e=>by rw [show p=q from e]
 | [p],q::q2::r,_,_,h1,_,e=>by
  have z:c∈J c [p]:=by rw [e];exact vb
  exact absurd z (h1 p (bV ..))
 |p::p2::r,[q],_,_,_,h2,e=>by
  have z:c∈J c [q]:=by rw [<- e];exact vb
  exact absurd z (h2 q (bV ..))
 |p::p2::r,q::q2::s,_,_,h1,h2,e=>by obtain ⟨e1,e2⟩:=mI (h1 p (bV ..)) (h2 q (bV ..)) e;rw [e1,va (List.cons_ne_nil _ _) (List.cons_ne_nil _ _) (fun x hx=>h1 x (bH _ hx)) (fun x hx=>h2 x (bH _ hx)) e2]
theorem toList_inj{a b:Str}(h:a.cps.toList=b.cps.toList):a=b:=by obtain ⟨x⟩:=a;obtain ⟨y⟩:=b;rw [show x=y from Array.toList_inj.mp h]
theorem mW:∀{ps qs:List Str},(ps.map fun t=>t.cps.toList)=(qs.map fun t=>t.cps.toList)->ps=qs
 | [],[],_=>rfl
 | [],_::_,h=>by cases h
 |_::_,[],h=>by cases h
 |p::ps,q::qs,h=>by injection h with h1 h2;rw [toList_inj h1,mW h2]
theorem rY{x y:Str}:Txt.split x y≠[]:=fun h=>by have:=PyProof.Rows.split_pos x y;rw [h] at this;exact absurd this Jm
theorem lW{c:Nat}{ts:List Str}(h0:ts≠[])(hf:∀p∈ts,c∉p.cps.toList):Txt.split (Str.join ⟨#[c]⟩ ts) ⟨#[c]⟩=ts:=by
 have e:=StrLaws.join_split (Str.join ⟨#[c]⟩ ts) ⟨#[c]⟩;have e2:=congrArg (fun s:Str=>s.cps.toList) e;rw [kN,kN] at e2;refine mW (va (by simpa using rY) (by simpa using h0) (fun p hp=>?_) (fun p hp=>?_) e2)
 ·obtain ⟨t,ht,rfl⟩:=zq37.mp hp;exact StrLaws.split_free _ c t ht
 ·obtain ⟨t,ht,rfl⟩:=zq37.mp hp;exact hf t ht
end GQ
namespace L2
open PySem PySem.Spec PyProof.Rows
section
variable {X:Cx}
def xI:V->List V->Hp->VK->Prop:=fun x vs H Q=>∃z y:Str,x=.str z/\vs=[.str y]/\(y.length==0)=false/\z.length<=1000000/\∀l,H l=none->Q (.ref l) (upd H l (.lst ((Txt.split z y).map V.str)))
theorem iO:∀(l:List (Str×Tok)),Vals ((l.map (·.1)).map V.str) (strValues l)
 | []=>.nil
 |p::r=>.cons ⟨p.2,rfl⟩ (iO r)
theorem fb:MtR X "str.split" xI:=by
 intro pins s σ H x vs v us Q I rx rv h;obtain ⟨z,y,rfl,rfl,hy,hz,q⟩:=h;obtain ⟨t,rfl⟩:=rx;obtain ⟨u,rfl,ru⟩:=rv.one;obtain ⟨t2,rfl⟩:=ru;have hs:z.length<=sizeLine:=by rw [zq3];omega
 have hl:=split_le z y;have lay:∀(l:List (Str×Tok)) (k:Nat),l.map (·.1)=Txt.split z y->EP X pins σ Q (.ref s.heap.objs.size) {s with heap:=s.heap.push {cls:=.type "list",data:=.seq (strValues l).toArray},toks:=k}:=fun l k e=>by refine zAA (.ref s.heap.objs.size) _ (I.laid (a:=s.heap.objs.size) (o:=.lst ((Txt.split z y).map V.str)) (t':=k) (fun _ _ g=>cz _ g) (zq9 _) ?_) rfl (q _ (I.hok.fresh (zq9 _)));exact ⟨by rw [zq2,zq3];omega,zAE _ 0 (by rw [<- e];exact iO l) (er _ rfl)⟩
 cases h1:(decide (z.length<y.length) || decide (Builtin.Str.strKind z<Builtin.Str.strKind y)) with
 |true=>
  refine call_meets F.slot_str_split (typeIs_str _ _ _) F.entry_str_split (F.args_str_split_2 _ _) (meets_str_split_cannot_occur z y t t2 h1) ?_;exact lay [(z,t)] s.toks (by unfold Txt.split;rw [zq1 h1];rfl)
 |false=>
  cases hf:(Builtin.Str.occurrences z y 0 z.length (z.length+1)).isEmpty with
  |true=>
   refine call_meets F.slot_str_split (typeIs_str _ _ _) F.entry_str_split (F.args_str_split_2 _ _) (meets_str_split_not_found z y t t2 h1 hy hf) ?_;exact lay [(z,t)] s.toks (by unfold Txt.split;rw [h1,zq0 zq8,zq1 hf];rfl)
  |false=>
   have e:Txt.split z y=Builtin.Str.partsBetween z (Builtin.Str.occurrences z y 0 z.length (z.length+1)) y.length:=by unfold Txt.split;rw [h1,zq0 zq8,hf,zq0 zq8]
   refine call_meets F.slot_str_split (typeIs_str _ _ _) F.entry_str_split (F.args_str_split_2 _ _) (meets_str_split_sep z y t t2 h1 hy hf hs (by rw [<- e,zq3];omega)) ?_;show wants _ _ _ {s with toks:=_,heap:=s.heap.push {cls:=.type "list",data:=.seq (strsFrom s.toks _).toArray}};rw [strsFrom_eq];exact lay (numbered s.toks _) _ ((numbered_texts _ _).trans e.symm)
theorem ik:cv X (.type "str") (fun xs H Q=>(∃i,xs=[.int i]/\i.natAbs.log2<1920/\Q (.str (toString i)) H)\/∃x,xs=[.str x]/\Q (.str x) H):=by
 intro pins s σ H xs us Q I r h;rcases h with ⟨i,rfl,hz,q⟩ | ⟨x,rfl,q⟩
 ·obtain ⟨u,rfl,t,rfl⟩:=dC r;exact PySem.P.str_of_int hz (zAA (.str _) H (I.tok _) ⟨_,rfl⟩ q)
 ·obtain ⟨u,rfl,t,rfl⟩:=dC r;exact PySem.P.str_of_str (zAA (.str _) H I ⟨_,rfl⟩ q)
theorem da:cv X (.type "int") (fun xs H Q=>∃n:Int,xs=[.str (toString n)]/\0<=n/\n<10 ^ 10/\Q (.int n) H):=by intro pins s σ H xs us Q I r h;obtain ⟨n,rfl,h0,h1,q⟩:=h;obtain ⟨u,rfl,t,rfl⟩:=dC r;exact W.KIN.call_num h0 h1 (zAA (.int _) H (I.tok _) ⟨_,rfl⟩ q)
end
end L2
namespace L2
open PySem PySem.Spec PyProof.Rows
def Its(x:Str):It:=⟨fun i _=>i<x.cps.size,fun i H v H'=>H'=H/\∃c,x.cps[i]?=some c/\v=.str ⟨#[c]⟩,fun i _=>x.cps.size<=i⟩
theorem sj{P:Program}{w:World}{K:W.Frag}{tg:Expr}(x:Str)(t:Tok)(it:Addr):nQ P w K tg (Its x) [it] it (fun i h=>h.IsStrIter it "str_ascii_iterator" x t i) where
 mem:=by simp
 obj:=fun i h st b hb=>by
  have e:b=it:=by simpa using hb
  subst e;obtain ⟨o,e,c,d⟩:=st;exact zn o e (fun v z=>by rw [d] at z;cases z)
 keep:=fun i h h' st k=>by obtain ⟨o,e,r⟩:=st;exact zn o (k it Jo o e) r
 item:=by intro X hP hw hK hc i pins s σ H E I hf st hg;subst hP hw hK;have hi:i<x.cps.size:=hg;obtain ⟨f0,f1,f2,f3,f4,f5⟩:=hf it Jo;have hx:x.cps[i]?=some x.cps[i]:=Array.getElem?_eq_getElem hi;refine wpAny_pyNext_ascii_item st hx fun h' st' sb=>?_;have I1:Inv X pins σ H {s with heap:=h',toks:=s.toks+1}:=I.turned (fun b o hb e=>(sb.2 b hb).trans e) f0 f1 f3 f4 f5;obtain ⟨o,e,c,d⟩:=id st';exact zn _ rfl (qx (s:={s with heap:=h',toks:=s.toks+1}) e c d Jm (zAK (.str ⟨#[x.cps[i]]⟩) H I1 ⟨_,rfl⟩ ⟨rfl,zn _ hx rfl⟩ st' fun b hb=>(hf b hb).1))
 done:=by intro X hP hw hK hc i pins s σ H E I hf st hg;subst hP hw hK;have hi:x.cps.size<=i:=hg;obtain ⟨f0,f1,f2,f3,f4,f5⟩:=hf it Jo;exact wpAny_pyNext_ascii_end (I.ok.hd hc) st (Array.getElem?_eq_none hi) fun h' eb=>⟨rfl,I.turned (t':=s.toks) (fun b o hb e=>eb b o hb e) f0 f1 f3 f4 f5⟩
 self:=fun _ _ _ _ _ st h=>wpAny_pyIter_striter_ascii st h
def zt(tl:TE):TI:=fun σ H R=>tl σ H fun v H1=>∃x:Str,v=.str x/\x.cps.all (·<128)=true/\R (Its x) H1
theorem y8{tl:TE}{σ:St}{H:Hp}{R:It->Hp->Prop}:zt tl σ H R=tl σ H fun v H1=>∃x:Str,v=.str x/\x.cps.all (·<128)=true/\R (Its x) H1:=rfl
theorem gu{X:Cx}{tg l:Expr}{tl:TE}(hl:XE X l tl):XI X tg l (zt tl):=⟨by
 intro pins s σ H R I h;refine thn (hl.h pins s σ H _ I h) fun v s1 hhx=>?_;obtain ⟨y,H1,I1,r1,q1⟩:=hhx;obtain ⟨x,e,ha,q⟩:=q1;subst e;obtain ⟨t,rfl⟩:=r1;refine wpAny_pyIter_ascii ha ?_;refine zBE s1.heap.objs.size ([s1.heap.objs.size]) _ _ H1 rfl (I1.kept (t':=s1.toks) fun b o e=>cz _ e) (sj x t _) (zAD _ (er _ rfl) rfl rfl) (fun b hb=>?_) q;have e:b=s1.heap.objs.size:=by simpa using hb
 subst e;exact I1.fpOk (zq9 _) (I1.hok.fresh (zq9 _))⟩
section
variable {tt:TT} {te:TE} {ci:List Nat} {σ:St} {acc:Addr} {Q:Hp->Prop} {H1:Hp} {x:Str}
theorem mH(f:Nat->V)(hz:x.cps.size<=sizeLine)(hacc:H1 acc=none)
  (hf:∀(c:Nat)(H:Hp)(Q':VK),c∈x.cps.toList->(Q' (f c) H)->te (b8 [some (.str ⟨#[c]⟩)] ci σ) H Q')
  (q:Q (upd H1 acc (.lst (x.cps.toList.map f)))):cg (Its x) (bD 1) oX te 1 ci σ acc Q (upd H1 acc (.lst [])):=by
 refine zn (fun i m ys H=>m=x.cps.size-i/\i<=x.cps.size/\ys=(x.cps.toList.take i).map f/\H=upd H1 acc (.lst ys)) (zAF x.cps.size Jn (eC _) rfl rfl) ?_;rintro i m ys H ⟨rfl,hi,rfl,rfl⟩
 by_cases hlt:i<x.cps.size
 ·have hl:i<x.cps.toList.length:=by simpa using hlt
  refine .inr ⟨hlt,zn (fun ys H=>ys=(x.cps.toList.take (i+1)).map f/\H=upd H1 acc (.lst ys)) (fun ys' H' p'=>zAF (x.cps.size-(i+1)) Jn rfl hlt p') fun y H' os ho yl=>?_⟩;obtain ⟨rfl,c,hc,rfl⟩:=yl;have e:(b8 os ci σ).set 1 (some (V.str ⟨#[c]⟩))=b8 [some (.str ⟨#[c]⟩)] ci σ:=by
   match os,ho with
   | [o],_=>rfl
  show (∃os',os'.length=1/\(b8 os ci σ).set 1 (some (V.str ⟨#[c]⟩))=b8 os' ci σ)/\oX ((b8 os ci σ).set 1 (some (V.str ⟨#[c]⟩))) _ _;rw [e];refine ⟨zn _ rfl rfl,?_⟩;have hcl:x.cps.toList[i]?=some c:=by simpa using hc
  obtain ⟨_,hce⟩:=zq17.mp hcl;have et:(x.cps.toList.take (i+1)).map f=(x.cps.toList.take i).map f++[f c]:=by rw [fP hl,hce,bI];rfl
  show te _ _ _;refine hf c _ _ (dr hcl) (zAG ae (by rw [zq2,gh];omega) et.symm ?_);rw [ej]
 ·have e:i=x.cps.size:=by omega
  subst e;refine .inl ⟨zq9 _,?_⟩;rw [sY Jo];exact q
end
end L2
namespace GT
open PySem L2 FA FB FS PyProof.Rows
variable {k:Str}
def otx:Opd->Str
 | .box n=>n
 | .word i=>toString i
def dT:Deed->List Str
 | .tell o=>["tell",otx o]
 | .copy n o=>[n,"=",otx o]
 | .op k n o p=>[n,"=",otx o,k,otx p]
mutual
def sT(al:Bool):Stm->List (List Str)
 | .deed d=>[dT d]
 | .ifs n a b=>["if",n]::(lT al a++((if al || ! b.isEmpty then [("else":Str)]::lT al b else [])++[[("end":Str)]]))
 | .whl n a=>["while",n]::(lT al a++[[("end":Str)]])
def lT(al:Bool):List Stm->List (List Str)
 | []=>[]
 |s::r=>sT al s++lT al r
end
theorem iw{al:Bool}:∀{a b:List Stm},lT al (a++b)=lT al a++lT al b
 | [],_=>by rw [lT];rfl
 |s::a,b=>by rw [sZ,lT,lT,iw,mh]
def jn(ts:List Str):Str:=Str.join " " ts
def ln(al:Bool)(ss:List Stm):List Str:=(lT al ss).map jn
def hT(w:Int)(ins oth:List Str):List (List Str):=["width",toString w]::(ins.map (fun n=>[("in":Str),n])++oth.map fun n=>[("box":Str),n])
def LETS:Str:="abcdefghijklmnopqrstuvwxyz"
def FIGS:Str:="0123456789"
def aX(x:Str):Bool:=decide (1<=x.length)&&decide (x.length<=6)&&x.cps.toList.all fun c=>decide (97<=c/\c<=122)
def c7(x:Str):Bool:=decide (x≠"")&&(x.cps.toList.all fun c=>decide (48<=c/\c<=57))&&(decide (x="0") || decide (x.cps[0]?≠some 48))
def fZ(x:Str):Bool:=x.cps.all (·<128)
theorem gw{x:Str}(h:fZ x=true){c:Nat}(hc:c∈x.cps.toList):c<128:=by unfold fZ at h;rw [<- Array.all_toList] at h;exact of_decide_eq_true (zq32.mp h c hc)
theorem wO{x:Str}(h:∀c∈x.cps.toList,c<128):fZ x=true:=by unfold fZ;rw [<- Array.all_toList,zq32];exact fun c hc=>zq5 (h c hc)
def okW(t:Str):Prop:=fZ t=true/\32∉t.cps.toList/\t.length<=20
theorem k9{n:Str}(h:aX n=true):1<=n.length/\n.length<=6/\∀c∈n.cps.toList,97<=c/\c<=122:=by unfold aX at h;rw [eD,eD] at h;exact zAB (of_decide_eq_true h.1.1) (of_decide_eq_true h.1.2) fun c hc=>of_decide_eq_true (zq32.mp h.2 c hc)
theorem bg{n:Str}(h:aX n=true):okW n:=by obtain ⟨_,h2,h3⟩:=k9 h;exact zAB (wO fun c hc=>by have:=h3 c hc;omega) (fun hc=>by have:=h3 32 hc;omega) Jn
theorem gN{n:Str}(h:aX n=true):∃c r,n.cps.toList=c::r/\97<=c/\c<=122:=by
 obtain ⟨h1,_,h3⟩:=k9 h
 cases hx:n.cps.toList with
 |nil=>
  have:n.length=n.cps.toList.length:=by rw [Array.length_toList];rfl
  rw [hx] at this;simp at this;omega
 |cons c r=>exact zAE c r rfl (h3 c (by rw [hx];exact bV ..))
theorem ka{n:Str}(h:aX n=true):c7 n=false:=by obtain ⟨c,r,hx,h1,_⟩:=gN h;unfold c7;rw [hx,pE,zq6 (fun z:48<=c/\c<=57=>Jn),dW,pF,dW]
theorem mY{n:Str}(h:aX n=true):¬n="=":=fun z=>by
 obtain ⟨c,r,hx,h1,_⟩:=gN h;rw [z] at hx;have:(("=":Str).cps.toList)=[61]:=by decide +kernel
 rw [this] at hx
 cases hx
 omega
def vn(i:Nat):Bool:=c7 (toString (i:Int))&&fZ (toString (i:Int))&&decide (32∉((toString (i:Int):Str)).cps.toList)&&decide ((toString (i:Int):Str).length<=20)&&decide (¬(toString (i:Int):Str)="=")
theorem AT:∀i,i<256->vn i=true:=by decide +kernel
theorem jc{i:Int}(h0:0<=i)(h1:i<256):c7 (toString i)=true/\okW (toString i)/\¬(toString i:Str)="=":=by obtain ⟨n,rfl⟩:=i4 h0;have z:=AT n Jn;unfold vn at z;rw [eD,eD,eD,eD] at z;exact zAB z.1.1.1.1 (zAB z.1.1.1.2 (of_decide_eq_true z.1.1.2) (of_decide_eq_true z.1.2)) (of_decide_eq_true z.2)
theorem jb(m pl k:Int):∀j,(nm m pl k j).cps.toList=(List.range j).map fun i=>ltr (qD m pl k i)
 |0=>by show (("":Str).cps.toList)=[];decide +kernel
 |j+1=>by rw [nm,List.range_succ,bI,<- jb m pl k j];show ((nm m pl k j).cps++#[_]).toList=_;rw [sO];rfl
theorem ua(z:Int):97<=ltr z/\ltr z<=122:=by unfold ltr;have h0:0<=z % 26:=cB _ Jm;have h1:z % 26<26:=d4 _ Jm;omega
theorem ue{m pl k:Int}{j:Nat}(h1:1<=j)(h6:j<=6):aX (nm m pl k j)=true:=by unfold aX;rw [lC,zq5 h1,zq5 h6,jb,i9,i9,zq32];intro c hc;obtain ⟨i,_,rfl⟩:=zq37.mp hc;exact zq5 (ua _)
theorem xh{m pl:Int}{k k2:Nat}{j:Nat}(p0:0<=pl)(pj:pl<j)(hk:k<8)(hk2:k2<8)(e:nm m pl k j=nm m pl k2 j):k=k2:=by
 have e1:=congrArg (fun s:Str=>s.cps.toList[pl.toNat]?) e;rw [jb,jb,cA,cA,List.getElem?_range Jn] at e1;have e2:ltr (qD m pl k pl.toNat)=ltr (qD m pl k2 pl.toNat):=by injection e1
 unfold qD ltr at e2;rw [Int.toNat_of_nonneg p0,zq5 rfl,zq1 rfl] at e2;have a0:0<=(m / 36+pl * pl+1 * (k:Int)) % 26:=cB _ Jm;have b0:0<=(m / 36+pl * pl+1 * (k2:Int)) % 26:=cB _ Jm;generalize m / 36+pl * pl=q at e2 a0 b0;omega
theorem lA(c:Int):(bw c).length=8/\(bw c).Nodup/\∀n∈bw c,aX n=true:=by
 unfold bw
 split
 ·exact zAB rfl Jk Jk
 ·have m0:=gM c 3;generalize cJ c 3=m at m0;have z0:0<=m % 6:=cB _ Jm;have z1:m % 6<6:=d4 _ Jm;have l0:0<=m / 6 % (1+m % 6):=cB _ Jn;have l1:m / 6 % (1+m % 6)<1+m % 6:=d4 _ Jn;unfold nms;refine zAB Jo ?_ ?_
  ·rw [List.Nodup,List.pairwise_map];refine List.Pairwise.imp_of_mem (fun {a b} ha hb hab e=>?_) (List.nodup_range (n:=8));exact hab (xh l0 Jn (zq50.mp ha) (zq50.mp hb) e)
  ·intro n hn;obtain ⟨k,_,rfl⟩:=zq37.mp hn;exact ue Jn Jn
theorem dQ{ns:List Str}{w:Int}{o:Opd}(hn:∀n∈ns,aX n=true)(hw:w<=8)(h:Opd.good ns w o):okW (otx o)/\¬otx o="=":=by
 cases o with
 |box n=>exact ⟨bg (hn n h),mY (hn n h)⟩
 |word i=>
  have p:(2:Int) ^ w.toNat<=2 ^ 8:=by exact_mod_cast mi Jm Jn
  have z:=jc h.1 (show i<256 by have:=h.2;omega);exact ⟨z.2.1,z.2.2⟩
theorem dy:∀t∈(["tell","=","if","else","end","while","plus","less","and","or","xor","below","same","width","in","box"]:List Str),okW t:=by
 unfold okW
 decide +kernel
theorem n9(h:k∈FB.opsL):okW k:=by
 refine dy k ?_;have:∀k∈FB.opsL,k∈(["tell","=","if","else","end","while","plus","less","and","or","xor","below","same","width","in","box"]:List Str):=by decide +kernel
 exact this k h
theorem zk{ns:List Str}{w:Int}{d:Deed}(hn:∀n∈ns,aX n=true)(hw:w<=8)(h:Deed.good ns w d):∀t∈dT d,okW t:=by
 intro t ht
 cases d with
 |tell o=>
  rcases zq4.mp ht with rfl | ht
  ·exact dy _ Jo
  rw [zq15.mp ht];exact (dQ hn hw h).1
 |copy n o=>
  rcases zq4.mp ht with rfl | ht
  ·exact bg (hn _ h.1)
  rcases zq4.mp ht with rfl | ht
  ·exact dy _ Jo
  rw [zq15.mp ht];exact (dQ hn hw h.2).1
 |op k n o p=>
  rcases zq4.mp ht with rfl | ht
  ·exact bg (hn _ h.2.1)
  rcases zq4.mp ht with rfl | ht
  ·exact dy _ Jo
  rcases zq4.mp ht with rfl | ht
  ·exact (dQ hn hw h.2.2.1).1
  rcases zq4.mp ht with rfl | ht
  ·exact n9 h.1
  rw [zq15.mp ht];exact (dQ hn hw h.2.2.2).1
def okL(ts:List Str):Prop:=ts≠[]/\ts.length<=5/\∀t∈ts,okW t
theorem i0{n:Str}(hk:okW k)(hn:okW n):okL [k,n]:=⟨Jo,Jo,fun t ht=>by
 rcases zq4.mp ht with rfl | ht
 ·exact hk
 ·rw [zq15.mp ht];exact hn⟩
theorem lI(hk:okW k):okL [k]:=zAB Jo Jo (fun t ht=>by rw [zq15.mp ht];exact hk)
mutual
theorem Au{ns:List Str}{w:Int}{al:Bool}(hn:∀n∈ns,aX n=true)(hw:w<=8):∀{s:Stm},s.good ns w->∀ts∈sT al s,okL ts
 | .deed d,h,ts,ht=>by
  rw [sT] at ht;rw [zq15.mp ht];refine zAB (by cases d<;>simp [dT]) (by cases d<;>simp [dT]) (zk hn hw (by rw [Stm.good] at h;exact h))
 | .ifs n a b,h,ts,ht=>by
  rw [Stm.good] at h;rw [sT] at ht;rcases zq4.mp ht with rfl | ht
  ·exact i0 (dy _ Jo) (bg (hn _ h.1))
  rcases zq10.mp ht with ht | ht
  ·exact jW hn hw h.2.1 ts ht
  rcases zq10.mp ht with ht | ht
  ·split at ht
   ·rcases zq4.mp ht with rfl | ht
    ·exact lI (dy _ Jo)
    ·exact jW hn hw h.2.2 ts ht
   ·cases ht
  ·rw [zq15.mp ht];exact lI (dy _ Jo)
 | .whl n a,h,ts,ht=>by
  rw [Stm.good] at h;rw [sT] at ht;rcases zq4.mp ht with rfl | ht
  ·exact i0 (dy _ Jo) (bg (hn _ h.1))
  rcases zq10.mp ht with ht | ht
  ·exact jW hn hw h.2 ts ht
  ·rw [zq15.mp ht];exact lI (dy _ Jo)
theorem jW{ns:List Str}{w:Int}{al:Bool}(hn:∀n∈ns,aX n=true)(hw:w<=8):∀{ss:List Stm},c5 ns w ss->∀ts∈lT al ss,okL ts
 | [],_,ts,ht=>by rw [lT] at ht;cases ht
 |s::r,h,ts,ht=>by
  rw [c5] at h;rw [lT] at ht;rcases zq10.mp ht with ht | ht
  ·exact Au hn hw h.1 ts ht
  ·exact jW hn hw h.2 ts ht
end
theorem zq{w:Int}{ins oth:List Str}(h0:0<=w)(h8:w<=8)(hn:∀n∈ins++oth,aX n=true):∀ts∈hT w ins oth,okL ts:=by
 intro ts ht;unfold hT at ht;rcases zq4.mp ht with rfl | ht
 ·exact i0 (dy _ Jo) (jc h0 Jn).2.1
 rcases zq10.mp ht with ht | ht
 ·obtain ⟨n,hm,rfl⟩:=zq37.mp ht;exact i0 (dy _ Jo) (bg (hn n (jx _ hm)))
 ·obtain ⟨n,hm,rfl⟩:=zq37.mp ht;exact i0 (dy _ Jo) (bg (hn n (d8 _ hm)))
theorem zg:(" ":Str)=⟨#[32]⟩:=by decide +kernel
theorem jU:∀{ts:List Str},(∀t∈ts,t.length<=20)->(jn ts).length<=21 * ts.length
 | [],_=>by show (Str.join _ []).length<=_;exact z9 rfl
 | [p],h=>by
  have:=h p (bV ..);show p.length<=_;simp;omega
 |p::q::r,h=>by
  have ih:=jU (ts:=q::r) fun t ht=>h t (bH _ ht);have hp:=h p (bV ..);have e:(jn (p::q::r)).length=p.length+1+(jn (q::r)).length:=by show ((p++(" ":Str))++jn (q::r)).length=_;rw [strLen_append,strLen_append];rfl
  rw [e,cF];omega
theorem cQ(a b c:Str):(a++b)++c=a++(b++c):=by refine GQ.toList_inj ?_;show ((a.cps++b.cps)++c.cps).toList=(a.cps++(b.cps++c.cps)).toList;rw [Array.append_assoc]
theorem x5(k n:Str):jn [k,n]=(k++" ")++n:=rfl
theorem mT{l:Str}(h:k++" "=l) (n:Str):jn [k,n]=l++n:=by rw [x5,h]
theorem eqb:(" ":Str)++(("=":Str)++" ")=" = ":=by decide +kernel
theorem mS(n x:Str):jn [n,"=",x]=(n++" = ")++x:=by show (n++" ")++(("="++" ")++x)=_;rw [<- cQ,cQ n,eqb]
theorem zu(n x k y:Str):jn [n,"=",x,k,y]=((((n++" = ")++x)++" ")++k)++" "++y:=by show (n++" ")++(("="++" ")++((x++" ")++((k++" ")++y)))=_;rw [<- cQ,cQ n,eqb];simp only [cQ]
def NW(ns:List Str)(w:Int):Prop:=(∀n∈ns,aX n=true)/\0<=w/\w<=8
mutual
theorem rN{al:Bool}:∀(s:Stm),(sT al s).length<=3 * s.many
 | .deed d=>by rw [sT,Stm.many];simp
 | .ifs n a b=>by
  have h1:=fF (al:=al) a;have h2:=fF (al:=al) b;rw [sT,Stm.many,cF,cf,cf,gi]
  split
  ·rw [cF];omega
  ·rw [List.length_nil];omega
 | .whl n a=>by have h1:=fF (al:=al) a;rw [sT,Stm.many,cF,cf,gi];omega
theorem fF{al:Bool}:∀(ss:List Stm),(lT al ss).length<=3 * aJ ss
 | []=>by rw [lT];simp
 |s::r=>by have h1:=rN (al:=al) s;have h2:=fF (al:=al) r;rw [lT,aJ,cf];omega
end
end GT
section
open PySem PySem.Spec PyProof.Rows
namespace L2
variable {xs ys:List Str}
section
variable {X:Cx} {K:W.Frag} {H:Hp}
theorem mO(hl:xs.length=ys.length):((List.range xs.length).all fun j=>decide (xs[j]?=ys[j]?))=decide (xs=ys):=by
 rw [kK,zq32,decide_eq_true_iff]
 constructor
 ·intro h;apply List.ext_getElem?;intro j
  by_cases hj:j<xs.length
  ·exact of_decide_eq_true (h j (zq50.mpr hj))
  ·rw [sP Jn,sP Jn]
 ·rintro rfl j _;exact zq5 rfl
theorem mM{n:Nat}:∀(j:Nat)x y,(xs.map V.str)[j]?=some x->(ys.map V.str)[j]?=some y->Dq K H n x y (decide (xs[j]?=ys[j]?)):=by
 intro j x y hx hy;rw [cA] at hx hy;obtain ⟨i,hi,rfl⟩:=zq46.mp hx;obtain ⟨k,hk,rfl⟩:=zq46.mp hy;have e:decide (xs[j]?=ys[j]?)=eqV (.str i) (.str k):=by rw [hi,hk];show decide (some i=some k)=(i==k);rw [kK,decide_eq_true_iff];simp
 rw [e];exact .flat rfl rfl
theorem ef{n:Nat}{a b:Addr}(ha:SqL K H a (xs.map V.str))(hb:SqL K H b (ys.map V.str)):Rq K H n (.ref a) (.ref b) (decide (xs=ys)):=by
 by_cases hl:xs.length=ys.length
 ·have z:=Rq.lists (n:=n) (fun j=>decide (xs[j]?=ys[j]?)) ha hb (by rw [zq2,zq2];exact hl) mM;rw [zq2,mO hl] at z;exact z
 ·rw [zq6 (fun e=>hl (congrArg List.length e))];exact .lens ha hb (by rw [zq2,zq2];exact hl)
theorem j5{n:Nat}{a b:Addr}(ne:a≠b)(ha:SqL K H a (xs.map V.str))(hb:SqL K H b (ys.map V.str)):Dq K H (n+1) (.ref a) (.ref b) (decide (xs=ys)):=by
 by_cases hl:xs.length=ys.length
 ·have z:=Dq.lists (n:=n) (fun j=>decide (xs[j]?=ys[j]?)) ne ha hb (by rw [zq2,zq2];exact hl) mM;rw [zq2,mO hl] at z;exact z
 ·rw [zq6 (fun e=>hl (congrArg List.length e))];exact .lens ne ha hb (by rw [zq2,zq2];exact hl)
def uP(g:Addr->Bool):Value->Bool
 | .ref b=>g b
 |_=>false
theorem mj{g:Addr->Bool}:∀{as:List Addr} {us:List Value},Vals (as.map V.ref) us->us.any (uP g)=as.any g
 | [],_,.nil=>rfl
 |a::as,u::us,.cons r t=>by
  cases r
  rw [kL,kL,mj t];rfl
theorem mX:∀{as:List Addr} {us:List Value},Vals (as.map V.ref) us->∀u∈us,∃b∈as,u=.ref b
 | [],_,.nil,u,h=>by cases h
 |a::as,v::us,.cons r t,u,h=>by
  rcases zq4.mp h with rfl | h
  ·cases r;exact zn a (bV ..) rfl
  ·obtain ⟨b,hb,e⟩:=mX t u h;exact zn b (bH _ hb) e
def nq(K:W.Frag)(n:Nat):R2:=fun x y H Q=>∃(p:Addr)(as:List Addr)(g:Addr->Bool),y=.ref p/\SqT K H p (as.map V.ref)/\(∀b∈as,Dq K H n (.ref b) x (g b))/\Q (.bl (! as.any g)) H
theorem oK{n:Nat}(hu:X.A.units+(n+1)<cLine):OpR X (compareOp .NotIn) (nq X.K n):=by
 intro pins s σ H x y v u Q I rx ry h;obtain ⟨p,as,g,rfl,hq,hd,q⟩:=h
 cases ry
 obtain ⟨its,r,pl,hz⟩:=I.tuple hq;refine SeqAt.notIn_tupleAt (uP g) pl (fun w hw=>?_) (zAA (.bl _) H I rfl ?_)
 ·obtain ⟨b,hb,rfl⟩:=mX r w (by simpa using hw);exact (hd b hb).at I rfl rx (by show X.A.units+1+n<cLine;omega)
 ·rw [show its.toArray.any (uP g)=its.any (uP g) by simp,mj r];exact q
end
def TupK(K:W.Frag)(p:Addr)(xs:List V):Prop:=∀H,SqT K H p xs
theorem TupK.mk{K:W.Frag}{p:Addr}{xs:List V}{o:Obj}{its:Array Value}{n:Nat}(l:K.lookup p=some o)(hc:o.cls=.type "tuple") (hd:o.data=.seq its n) (hz:its.size<=sizeLine) (r:Vals xs its.toList):TupK K p xs:=fun H=>.inr (zAQ o its n l hc hd hz r)
end L2
namespace L2
variable {H:Hp} {L T e:Addr}
structure Trc(h:Heap)(e T:Addr)(cls:Value):Prop where
 ex:∃oe vs,h.get? e=some oe/\oe.cls=cls/\oe.data=.fields vs/\vs[1]?=some (.ref T)/\oe.dict=none
 ne:T≠e
 tr:∃oT ts,h.get? T=some oT/\oT.data=.fields ts/\ts[3]?=some .none
structure Ntd(h h':Heap)(e T:Addr)(fr:List Addr):Prop where
 keep:∀b o,h.get? b=some o->b≠e->b≠T->b∉fr->h'.get? b=some o
 slot:∀b o,h.get? b=some o->b∈fr->∃sl,h'.get? b=some {o with slots:=sl}
theorem qj(o:Obj)(f):(o.mapFields f).dict=o.dict:=by obtain ⟨c,d,dt,sl⟩:=o;cases dt<;>rfl
section
variable {M:Model} {A:Around} {E:Value->Shared->Prop} {s:Shared}
theorem gP{env:Env}{outer:List Env}{base:Heap}{L e:Addr}{oe:Obj}{vs:Array Value}{head:Value}{hn:Bool}{Q:Unit->Shared->Prop}(hfr:A.frames=some (env::outer))(hl:s.heap.FunFrames base (env::outer))(hf:env.frame=some L)
  (he:s.heap.get? e=some oe) (hx:oe.dict=none) (hd:oe.data=.fields vs) (hz:1<vs.size) (h:∀h' T,Ntd s.heap h' e e (frs (env::outer))->Trc h' e T oe.cls->s.heap.get? T=none->Q () {s with heap:=h'}) :
  wpAny M A (do let a <- frameOf env;let pl <- entryPlaceOf L hn;let b <- EntryCells.newEntry head a .none (rawInt L) .none pl;setField (.ref e) 1 b) (fun _ s'=>wpAny M A (setFlight (.ref e) none) Q E s') E s:=by
 have nofr:∀b∈frs (env::outer),b≠e:=fun b hb z=>by obtain ⟨_,o,ho,hnf⟩:=hl.mem (z ▸ hb);rw [he] at ho;cases ho;exact hnf vs hd
 refine zq7 (wpAny_frameOf_fun hfr hl hf fun h1 hs=>zq7 (wpAny_entryPlaceOf fun pl hpl=>?_));have he1:h1.get? e=some oe:=(hs.2.1 e fun z=>nofr e z rfl).trans he;unfold EntryCells.newEntry newFields;refine zq7 (wpAny_newObj_type ?_ (hpl.sizeOk5 _ _ _ _ _));generalize ho:({cls:=.type "traceback",dict:=none,data:=.fields ([head,.ref L,.none,rawInt L,.none]++(if pl.isEmpty then List.replicate 6 Value.none else pl)).toArray}:Obj)=ot;have hto:∃ts,ot.data=.fields ts/\3<ts.size:=zn _ (by rw [<- ho]) (by simp only [List.size_toArray,List.length_append,List.length_cons,List.length_nil];omega)
 have hfo:ot.isFreed=false:=by rw [<- ho];rfl
 clear ho;obtain ⟨ts,hdt,hts⟩:=hto;generalize hT:h1.objs.size=T;have nT:h1.get? T=none:=hT ▸ z7 (zq9 _);have hTe:T≠e:=fun z=>by rw [z,he1] at nT;cases nT
 have gT:(h1.push ot).get? T=some ot:=hT ▸ er h1 hfo;refine wpAny_setField (cz ot he1) hd hz ?_;have hd3:=Obj.data_mapFields hd (·.setIfInBounds 1 (Value.ref T));have he3:=v1 (Obj.mapFields (·.setIfInBounds 1 (Value.ref T))) (cz ot he1) (Obj.isFreed_of_fields hd3);have hT3:=(i3 (h1.push ot) (Obj.mapFields (·.setIfInBounds 1 (Value.ref T))) (Ne.symm hTe)).trans gT;refine wpAny_setFlight_none he3 hd3 (by simp [hz]) hT3 hdt hts (h _ T ⟨fun b o q n1 _ n3=>?_,fun b o q m=>?_⟩ ⟨zAK _ _ ((i3 _ _ hTe).trans he3) (Obj.cls_mapFields _ _) hd3 (by simp [hz]) ((qj _ _).trans hx),hTe,_,_,v1 _ hT3 (Obj.isFreed_of_fields (Obj.data_mapFields hdt _)),Obj.data_mapFields hdt _,by simp [hts]⟩ ?_)
 ·have q1:h1.get? b=some o:=(hs.2.1 b n3).trans q;have nb:T≠b:=fun z=>by rw [<- z,nT] at q1;cases q1
  rw [i3 _ _ nb,i3 _ _ (Ne.symm n1)];exact cz _ q1
 ·obtain ⟨sl,q1⟩:=hs.2.2 b o q;have nb:T≠b:=fun z=>by rw [<- z,nT] at q1;cases q1
  refine ⟨sl,?_⟩;rw [i3 _ _ nb,i3 _ _ (Ne.symm (nofr b m))];exact cz _ q1
 ·cases q:s.heap.get? T with
  |none=>rfl
  |some o=>obtain ⟨sl,q1⟩:=hs.2.2 T o q;rw [nT] at q1;cases q1
theorem lE{env:Env}{outer:List Env}{base:Heap}{oe:Obj}{vs:Array Value}{Q:Unit->Shared->Prop}(hfr:A.frames=some (env::outer))(hl:s.heap.FunFrames base (env::outer))(hf:env.frame=some L)
 (he:s.heap.get? e=some oe) (hx:oe.dict=none) (hd:oe.data=.fields vs) (h1:vs[1]?=some .none)
 (h:∀h' T,Ntd s.heap h' e e (frs (env::outer))->Trc h' e T oe.cls->s.heap.get? T=none->Q () {s with heap:=h'}):wpAny M A (leaving env (.ref e)) Q E s:=by
 unfold leaving noteFrame;simp only [hf];refine zq7 (zq7 (wpAny_field he hd h1 ?_));rw [zq0 Jm];exact gP hfr hl hf he hx hd (zq77.mp h1).1 h
theorem iA{env:Env}{outer:List Env}{base:Heap}{cls:Value}{Q:Unit->Shared->Prop}(hfr:A.frames=some (env::outer))(hl:s.heap.FunFrames base (env::outer))(hf:env.frame=some L)
 (ht:Trc s.heap e T cls) (h:∀h' T',Ntd s.heap h' e T (frs (env::outer))->Trc h' e T' cls->(s.heap.get? T'=none\/T'=T)->Q () {s with heap:=h'}):wpAny M A (noteFrame (.ref e) env) (fun _ s₁=>wpAny M A (setFlight (.ref e) none) Q E s₁) E s:=by
 obtain ⟨⟨oe,vs,he,rfl,hd,h1,hx⟩,hTe,oT,ts,hT,hdT,h3⟩:=id ht;unfold noteFrame;simp only [hf];refine zq7 (wpAny_field he hd h1 ?_);rw [zq1 (show (Value.ref T != Value.none)=true from by simp)];refine zq7 (wpAny_field hT hdT h3 ?_);rw [zq0 (show ¬((Value.none==rawInt L)=true) from by simp [rawInt])];refine zq7 (wpAny_setField hT hdT (zq77.mp h3).1 ?_);have other:∀b,b≠T->(s.heap.update T (Obj.mapFields (·.setIfInBounds 3 Value.none))).get? b=s.heap.get? b:=fun b hb=>i3 _ _ (Ne.symm hb);have noRecord:∀b o,s.heap.get? b=some o->(∀vs,o.data≠.fields vs)->b≠T:=fun b o hb hnf q=>by rw [q,hT] at hb;injection hb with hb;subst hb;exact hnf ts hdT
 refine gP (s:={s with heap:=s.heap.update T (Obj.mapFields (·.setIfInBounds 3 Value.none))}) (base:=base) hfr (hl.of_keeps fun b o hb hnf=>zn o ((other b (noRecord b o hb hnf)).trans hb) rfl) hf ((other e (Ne.symm hTe)).trans he) hx hd (zq77.mp h1).1 fun h' T' n t nT=>h h' T' ⟨fun b o q n1 n2 n3=>n.keep b o ((other b n2).trans q) n1 n1 n3,fun b o q m=>n.slot b o ((other b ?_).trans q) m⟩ t (.inl ?_)
 ·obtain ⟨_,o2,h2,h3⟩:=hl.mem m;exact noRecord b o2 h2 h3
 ·by_cases z:T'=T
  ·rw [z] at nT;have:=v1 (Obj.mapFields (·.setIfInBounds 3 Value.none)) hT (Obj.isFreed_of_fields (Obj.data_mapFields hdT _));rw [this] at nT;cases nT
  ·exact (other T' z).symm.trans nT
theorem kZ{env:Env}{outer:List Env}{base:Heap}{cls:Value}{Q:Unit->Shared->Prop}(hfr:A.frames=some (env::outer))(hl:s.heap.FunFrames base (env::outer))(hf:env.frame=some L)
 (ht:Trc s.heap e T cls) (h:∀h' T',Ntd s.heap h' e T (frs (env::outer))->Trc h' e T' cls->(s.heap.get? T'=none\/T'=T)->Q () {s with heap:=h'}):wpAny M A (leaving env (.ref e)) Q E s:=by
 unfold leaving;exact zq7 (iA hfr hl hf ht h)
end
structure Fly(H:Hp)(h0 h:Heap)(e T:Addr)(cls:Value):Prop where
 trc:Trc h e T cls
 fe:H e=none
 fT:H T=none
 ne:h0.get? e=none
 nT:h0.get? T=none
def CX1(P:Program)(w:World):CXT:=fun outer H s E e s'=>∃(ea T:Addr)(cls:Value)(H':Hp),e=.ref ea/\s'.os=s.os/\AllBare s'.gens/\Un (frs outer) [] H H' s.heap s'.heap/\HOk P w H' s'.heap/\Fly H' s.heap s'.heap ea T cls/\E cls none H'
theorem HOk.ntd{P:Program}{w:World}{h h':Heap}{fr:List Addr}(x:HOk P w H h)(n:Ntd h h' e T fr)(fe:H e=none)(fT:H T=none)(ff:∀b∈fr,H b=none):HOk P w H h':=fun a o q=>
 (x a o q).stay (fun c v hc hq=>by
  have tr:∃u,H c=some u:=hc.elim (fun z=>⟨o,by rw [z];exact q⟩) fun z=>⟨_,z⟩
  obtain ⟨u,hu⟩:=tr;exact n.keep c v hq (fun z=>by rw [z,fe] at hu;cases hu) (fun z=>by rw [z,fT] at hu;cases hu) fun z=>by rw [ff c z] at hu;cases hu) (fun _ q=>q) fun _ _ q=>q
theorem Un.ntd{fs fr:List Addr}{H0:Hp}{h0 h h':Heap}(u:Un fs [] H0 H h0 h)(n:Ntd h h' e T fr)(ne:h0.get? e=none)(nT:h0.get? T=none)(hfr:∀b∈fr,b∈fs\/h0.get? b=none):Un fs [] H0 H h0 h' where
 keep:=fun b o q m hb he=>n.keep b o (u.keep b o q m hb he) (fun z=>by rw [z,ne] at q;cases q) (fun z=>by rw [z,nT] at q;cases q) fun z=>by
  rcases hfr b z with z | z
  ·exact hb z
  ·rw [z] at q;cases q
 slot:=fun b o q m hb he=>by
  obtain ⟨sl,e1⟩:=u.slot b o q m hb he
  by_cases hz:b∈fr
  ·obtain ⟨sl',e2⟩:=n.slot b _ e1 hz;exact ⟨sl',e2⟩
  ·exact ⟨sl,n.keep b _ e1 (fun z=>by rw [z,ne] at q;cases q) (fun z=>by rw [z,nT] at q;cases q) hz⟩
 free:=u.free
 there:=fun b o q he=>by
  obtain ⟨o',e1⟩:=u.there b o q he
  by_cases hz:b∈fr
  ·obtain ⟨sl',e2⟩:=n.slot b _ e1 hz;exact ⟨_,e2⟩
  ·exact ⟨o',n.keep b _ e1 (fun z=>by rw [z,ne] at q;cases q) (fun z=>by rw [z,nT] at q;cases q) hz⟩
 tups:=u.tups
 frzs:=u.frzs
 tbls:=u.tbls
theorem cR{fs ex:List Addr}{H0:Hp}{h0 h:Heap}{b:Addr}(u:Un fs ex H0 H h0 h)(hx:b∉ex)(e:h.get? b=none):h0.get? b=none:=by
 cases q:h0.get? b with
 |none=>rfl
 |some o=>obtain ⟨o',e1⟩:=u.there b o q hx;rw [e] at e1;cases e1
theorem ObjOk.is{P:Program}{w:World}{h:Heap}{a:Addr}{o:HO}(x:ObjOk P w H h a o):∃u,h.get? a=some u:=by
 induction o with
 |lst xs=>obtain ⟨z,its,n,r,e⟩:=x;exact ⟨_,e⟩
 |tup xs=>obtain ⟨z,its,r,ob,e,c⟩:=x;exact ⟨_,e⟩
 |dK kvs=>obtain ⟨z,y,vs,r,ob,es,ep,e,c⟩:=x;exact ⟨_,e⟩
 |dT kvs=>obtain ⟨z,y,xs,r,ob,es,ep,e,c⟩:=x;exact ⟨_,e⟩
 |set S n=>obtain ⟨ob,es,ep,t,e,c⟩:=x;exact ⟨_,e⟩
 |ins C dx fs=>obtain ⟨d,z,ne,e,mA,⟨od,es,ep,e2,c⟩,r⟩:=x;exact ⟨_,e⟩
 |own y=>obtain ⟨ob,e⟩:=x;exact ⟨_,e⟩
 |xd fs=>obtain ⟨mA,⟨od,es,ep,e,c⟩,r⟩:=x;exact ⟨_,e⟩
 |rng lo hi=>obtain ⟨t,u,v,e⟩:=x;exact ⟨_,e⟩
 |frz ob u ih=>obtain ⟨e,q⟩:=x;exact ⟨_,e⟩
 |tbl ps=>exact ⟨_,x⟩
 |met f y=>exact ⟨_,x⟩
 |ext φ=>obtain ⟨p,⟨o,e⟩,st⟩:=x;exact ⟨_,e⟩
theorem ed{P:Program}{w:World}{h:Heap}{b:Addr}(x:HOk P w H h)(e:h.get? b=none):H b=none:=by
 cases q:H b with
 |none=>rfl
 |some o=>obtain ⟨u,hu⟩:=(x b o q).is;rw [e] at hu;cases hu
def iW(X:Cx)(E:XK):Prop:=∀(pins:List (Addr×Obj)) (σ:St) (H:Hp) (s:Shared) (h':Heap) (e:Addr) (cls:Value) (args:List Value),Inv X pins σ H s->Heap.MadeExcOf s.heap h' e cls args->E cls none H->X.xe (.ref e) {s with heap:=h'}
section
variable {P:Program} {w:World} {K:W.Frag} {mg:Str->Option Value} {base:Heap} {N:List Str} {qual:Str} {scope:Scope} {f:Addr} {cd:Value} {A:Around} {outer:List Env} {s0:Shared} {H0:Hp} {E:XK}
theorem jP{pins:List (Addr×Obj)}{σ:St}{H:Hp}{s:Shared}{h h':Heap}{e T T':Addr}{cls:Value}(I:Inv (ek (CX1 P w) P w K mg base N qual scope f cd A outer s0 H0 E) pins σ H s)
  (u:Un (frs outer) [] H0 H s0.heap h) (hok:HOk P w H h) (n:Ntd h h' e T (s0.heap.objs.size::frs outer)) (t:Trc h' e T' cls) (fe:H e=none) (fT:H T=none) (fT':H T'=none) (ne:s0.heap.get? e=none) (nT:s0.heap.get? T=none) (nT':s0.heap.get? T'=none) (g:Array GenState) (hg:AllBare g) (d:Drawn) (tk:Nat) (hE:E cls none H) :
  CX1 P w outer H0 s0 E (.ref e) {heap:=h',gens:=g,drawn:=d,toks:=tk,os:=s.os}:=by
 have hn:s0.heap.get? s0.heap.objs.size=none:=z7 (zq9 _);refine zAN e T' cls H (zAV rfl I.os hg (u.ntd n ne nT fun b hb=>?_) (hok.ntd n fe fT fun b hb=>?_) ⟨t,fe,fT',ne,nT'⟩ hE)
 ·rcases zq4.mp hb with z | z
  ·exact .inr (by rw [z];exact hn)
  ·exact .inl z
 ·rcases zq4.mp hb with z | z
  ·rw [z];exact I.free
  ·exact I.stkFree b (bH _ z)
theorem bF:iW (ek (CX1 P w) P w K mg base N qual scope f cd A outer s0 H0 E) E:=by intro pins σ H s h' e cls args I hx hE;obtain ⟨t,he,ht,hta⟩:=hx.there;have hke:=hx.keeps;have I2:=I.kept (t':=s.toks) hke;show wpAny (model P w) _ (leaving _ (.ref e)) _ _ {s with heap:=h'};refine lE I2.ok.frames I2.stack rfl he rfl rfl rfl fun h2 T n tr hT=>?_;have n':Ntd h' h2 e e (s0.heap.objs.size::frs outer):=n;have fe:H e=none:=ed I.hok hx.new;have ne:s0.heap.get? e=none:=cR I.base (by intro z;cases z) hx.new;exact jP I I2.base I2.hok n' tr fe fe (ed I2.hok hT) ne ne (cR I2.base (by intro z;cases z) hT) _ I.bare _ _ hE
theorem ba:cH (CX1 P w) (ek (CX1 P w) P w K mg base N qual scope f cd A outer s0 H0 E) E:=by
 intro pins σ H s e s' I h;obtain ⟨ea,T,cls,H',rfl,ho,hg,u,hok,fl,hE⟩:=h;have I2:=I.call' ho u hok hg (fun b z=>nomatch z);show wpAny (model P w) _ (leaving _ (.ref ea)) _ _ s';refine kZ I2.ok.frames I2.stack rfl fl.trc fun h2 T' n tr hT=>?_;have n':Ntd s'.heap h2 ea T (s0.heap.objs.size::frs outer):=n;have ne:s0.heap.get? ea=none:=cR I.base (by intro z;cases z) fl.ne;have nT:s0.heap.get? T=none:=cR I.base (by intro z;cases z) fl.nT;have hT2:H' T'=none/\s0.heap.get? T'=none:=by
  rcases hT with z | z
  ·exact ⟨ed hok z,cR I2.base (by intro z;cases z) z⟩
  ·rw [z];exact ⟨fl.fT,nT⟩
 have z:=jP I2 I2.base hok n' tr fl.fe fl.fT hT2.1 ne nT hT2.2 s'.gens hg s'.drawn s'.toks hE;exact z
end
end L2
namespace L2
abbrev bmV:List Value:=[.type "ValueError",.type "Exception",.type "BaseException",.type "object"]
theorem tR{K:W.Frag}{h:Heap}{C:Addr}{bmB:List Value}{newId:String}(X:K.In h)(q:W.excIn K C bmB newId=true):
  ∃bm N nm qn bs hdct sn sub ab col dd k0 k1 k2 k3 k5 mN,h.get? C=some (excClassObj nm qn C N bs bm hdct sn sub ab col dd k0 k1 k2 k3 k5 newId)/\h.Ns N mN/\mN "__init__"=none/\OwnTail h bmB bm:=by
 unfold W.excIn at q
 split at q
 ·rename_i dd cd sl ho
  split at q
  ·rename_i C' bm k0 k1 k2 k3 n k5 hm hs
   simp only [Bool.and_eq_true,beq_iff_eq,Bool.not_eq_true'] at q;obtain ⟨⟨⟨⟨⟨rfl,rfl⟩,hdel⟩,ht⟩,hok⟩,hni⟩:=q;obtain ⟨nm,bs,mro,ns,qn,hd,sn,sub,ab,col,del⟩:=cd;dsimp only at hm hdel hok hni;subst hm hdel;have hsl:sl=#[k0,k1,k2,k3,some (.builtin n),k5]:=by obtain ⟨l⟩:=sl;simp only at hs;rw [hs]
   subst hsl;exact ⟨bm,ns,nm,qn,bs,hd,sn,sub,ab,col,dd,k0,k1,k2,k3,k5,_,X _ _ ho,.of_isNs (W.isNs_of_in X hok),W.nsMap_none_of_in X hok hni,W.tail_of_in X ht⟩
  ·cases q
 ·cases q
variable {X:Cx}
def m7(E:XK)(C:Addr)(t:TA):TS:=fun D σ H=>t σ H fun vs H1=>vs.length<=sizeLine/\E (.ref C) none H1
theorem rh{E:XK}{x:Str}{C:Addr}{e:Expr}{es:List Expr}{t:TA}{np cpos pos:Pos}(rt:iW X E)(hc:X.calm=true)(hm:X.mg x=some (.ref C))(q:W.excIn X.K C bmV "ValueError.__new__"=true) (ha:PA X (e::es) t) (hg:Gl X x)
  (hdb:(x==("__debug__":Str))=false:=by kernel_rfl) (he:starEach (e::es) X.env=(false,eval e X.env)::starEach es X.env:=by rfl) (hpl:(backTo cpos (starEach es X.env)).any (·.1)=false:=by rfl) :
  PS X (.Raise (some (.Call (.Name x np) (e::es) [] cpos)) none pos) (m7 E C t):=by
 intro pins s σ H D I h;obtain ⟨tl,N,nm,qn,bs,hdct,sn,sub,ab,col,dd,k0,k1,k2,k3,k5,mN,hC,hN,hni,T⟩:=tR I.mod.kin q;have FB:=PySem.F.excBase_ValueError;refine wpAny_Raise_call_subT (C:=C) (nm:=nm) (q:=qn) (N:=N) (bs:=bs) (bm:=tl) (hdct:=hdct) (sn:=sn) (sub:=sub) (ab:=ab) (col:=col) (dd:=dd) (k0:=k0) (k1:=k1) (k2:=k2) (k3:=k3) (k5:=k5)
  FB (mN:=mN) (T.hasType FB.hasBase) (I.ok.hd hc) (by rw [he];show (false || (backTo cpos (starEach es X.env)).any (·.1))=false;rw [hpl];rfl) hni (f9 I hg hm ⟨rfl,?_⟩ hdb)
 have hp:=ha cpos pins s σ H _ I h;rw [he] at hp ⊢;refine Calls.evalArgs_plain (fO hp (fun us s₂ ⟨vs,H2,I2,r,hl,hE⟩=>zAP rfl (by rw [<- r.length];exact hl) (I2.bk _ _ hC) (hN.keeps I2.bk) (T.keeps I2.bk) fun h' e' hx=>rt pins σ H2 s₂ h' e' (.ref C) us I2 hx hE) fun _ _ y=>y)
def eL(a:Addr)(cls:Value):HO:=.ext fun h=>∃o,h.get? a=some o/\o.cls=cls/\o.dict=none/\∃vs,o.data=.fields vs
theorem Un.track{P:Program}{w:World}{fs:List Addr}{H0 H:Hp}{h0 h:Heap}{e:Addr}{o:HO}(u:Un fs [] H0 H h0 h)(ne:h0.get? e=none)(hok:HOk P w H0 h0):Un fs [] H0 (upd H e o) h0 h:=by
 have n1:∀b u,h0.get? b=some u->b≠e:=fun b u q z=>by rw [z,ne] at q;cases q
 have n2:∀b u,H0 b=some u->b≠e:=fun b u q z=>by obtain ⟨v,hv⟩:=(hok b u q).is;exact n1 b v hv z
 exact ⟨u.keep,u.slot,fun b ob q n hx=>by rw [aE (n1 b ob q)];exact u.free b ob q n hx,u.there,fun b xs q=>by rw [aE (n2 b _ q)];exact u.tups b xs q,fun b ob xs q=>by rw [aE (n2 b _ q)];exact u.frzs b ob xs q,fun b ps q=>by rw [aE (n2 b _ q)];exact u.tbls b ps q⟩
theorem HOk.track{P:Program}{w:World}{H:Hp}{h:Heap}{e:Addr}{o:HO}(x:HOk P w H h)(fe:H e=none)(new:ObjOk P w (upd H e o) h e o):HOk P w (upd H e o) h:=fun b u q=>by
 by_cases hb:b=e
 ·subst hb;rw [ae] at q;cases q;exact new
 ·rw [aE hb] at q;exact (x b u q).stay (fun _ _ _ z=>z) (fun c z=>by rw [aE (aA z fe)];exact z) fun c xs z=>by rw [aE (aA z fe)];exact z
theorem kU{h:Heap}{T:Addr}{oT:Obj}{ts:Array Value}(hT:h.get? T=some oT)(hd:oT.data=.fields ts)(e:Addr):Ntd h (h.update T (Obj.mapFields (·.setIfInBounds 3 .none))) e T []:=
 ⟨fun b o q _ n _=>(i3 _ _ (Ne.symm n)).trans q,fun _ _ _ z=>nomatch z⟩
def yT(K:W.Frag)(sp:Sp)(C:Addr)(i j k:Nat)(t:TA):TS:=fun D σ H=>t σ H fun vs H1=>sp vs H1 (fun v H2=>D.nx (σ.set i (some v)) H2) (fun cls _ H2=>W.exmOne K cls (.ref C)=some true/\∀ea:Addr,H2 ea=none->D.nx ((σ.set j (some (.ref ea))).set k none) (upd H2 ea (eL ea cls)))
theorem ux{kk:Nat}{f C:Addr}{fd:FuncData}{ps:List Str}{sp:Sp}{x y n c fx:Str}{st:Stmt}{i j k:Nat}{e:Expr}{es:List Expr}{t:TA}{px pf pc pa pcn py pn pb ph pos:Pos}(D0:bf X.K X.mg fx st ps f fd)(G:FnOk X.prog X.w X.K X.mg X.base (CX1 X.prog X.w) kk f fd ps sp)(hr:Room kk X.A)
  (ha:PA X.nox (e::es) t) (hg:Gl X fx) (hN:X.N.Nodup) (hi:X.N[i]?=some x) (hx:Loc X.env.scope x) (hj:X.N[j]?=some y) (hy:Loc X.env.scope y) (hk:X.N[k]?=some n) (hn:X.env.scope.names.lookup n=some .local) (hgc:Gl X c) (hmc:X.mg c=some (.ref C))
  (hst:X.stack=X.env::X.outer:=by rfl) (hfr:X.env.frame=some X.env.locals:=by rfl) (hdb:(fx==("__debug__":Str))=false:=by kernel_rfl) (hdc:(c==("__debug__":Str))=false:=by kernel_rfl) (hdn:(n==("__debug__":Str))=false:=by kernel_rfl)
  (he:starEach (e::es) X.env=(false,eval e X.env)::starEach es X.env:=by rfl) (hpl:(backTo pc (starEach es X.env)).any (·.1)=false:=by rfl)
  (hs1:swapsWith (.Call (.Name fx pf) (e::es) [] pc) (some (.Name x px)) pa.line X.env=pure false:=by rfl) (hs2:swapsWith (.Name n pn) (some (.Name y py)) pb.line X.env=pure false:=by rfl)
  (hfx:X.fn x=true\/X.env.scope.names.lookup x=some .local:=by first | exact .inl rfl | exact .inr rfl | assumption) (hfy:X.fn y=true\/X.env.scope.names.lookup y=some .local:=by first | exact .inl rfl | exact .inr rfl | assumption) (hfn:X.fn n=true\/X.env.scope.names.lookup n=some .local:=by first | exact .inl rfl | exact .inr rfl | assumption) :
  PS X (.Try [.Assign [.Name x px] (.Call (.Name fx pf) (e::es) [] pc) pa] [.ExceptHandler (some (.Name c pcn)) (some n) [.Assign [.Name y py] (.Name n pn) pb] ph] [] [] pos) (yT X.K sp C i j k t):=by
 intro pins s σ H D I h;refine wpAny_Try_except (wpAny_execs_cons (wpAny_Assign_Name ?_ hs1));refine wpAny_Call_Name_kw (f9 I hg D0.M ?_ hdb);refine W.callWith_K (h₀:=X.base) I.ok.mod.kin D0.F.kp (fO (ha pc pins s σ H _ (I.wish _) h) (fun us s1 ⟨vs,H1,I1w,r,q⟩=>⟨I1w.unwish.kIn,?_⟩) (fun _ _ z=>z.elim)) he hpl;have I1:=I1w.unwish;have hl:us.length=ps.length:=by rw [<- r.length];exact G.len _ _ _ _ q
 refine wpAny_call (codeAny_mono (G.run X.A X.stack s1 H1 ⟨us,[]⟩ us vs _ _ hr I1.env0 (by have:=D0.B s1 us I1.kIn (by simpa using hl);simpa using this) r q) fun rr s' hq=>?_)
 cases rr with
 |ok fl=>
  cases fl with
  |ret u=>
   obtain ⟨v,H2,I2,rv,q2⟩:=I1.after hq;exact dR I2 hN hi hx rv (fun s3 I3=>wpAny_execs_nil (wpAny_execs_nil (zAE _ H2 I3 q2))) hfx
  |next=>exact False.elim hq
  |brk=>exact False.elim hq
  |cont=>exact False.elim hq
 |error ev=>
  obtain ⟨ea,T,cls,H2,rfl,ho,hgn,u,hok,fl,hm,hQ⟩:=hq;have I2:=I1.call' ho u hok hgn (fun b z=>nomatch z);have hfrm:=I2.ok.frames;have hfun:=I2.stack;rw [hst] at hfrm hfun;refine iA hfrm hfun hfr fl.trc fun h2 T' n2 tr hT=>?_;have u3:Un (frs X.stack) [] H1 H2 s1.heap h2:=u.ntd n2 fl.ne fl.nT fun b hb=>.inl (by rw [hst];exact hb);have ok3:HOk X.prog X.w H2 h2:=hok.ntd n2 fl.fe fl.fT fun b hb=>I2.stkFree b (by rw [hst];exact hb);have I3:Inv X pins σ H2 {s' with heap:=h2}:=I1.call' ho u3 ok3 hgn (fun b z=>nomatch z);have nT':s1.heap.get? T'=none/\H2 T'=none:=by
   rcases hT with z | z
   ·exact ⟨cR u (by intro z;cases z) z,ed hok z⟩
   ·rw [z];exact ⟨fl.nT,fl.fT⟩
  obtain ⟨⟨oe,vs',hoe,hcls,hde,h1e,hdi⟩,hTe,oT,ts,hoT,hdT,h3T⟩:=tr;have LT:W.Looks (model X.prog X.w) h2 (typeOf (.ref ea)) cls:=hcls ▸ ((W.Looks.ld hoe).andThen .now);refine wpAny_handleBy_cons (codeAny_handlers_test ?_) (by intro z;cases z);refine Calls.Name_function_global I3.ok.kind hgc (Calls.loadGlobal_global (by rw [I3.ok.glob];exact I3.mod.glob.keeps I3.bk) hmc ?_) hdc;refine W.exm_one I3.kIn LT hm _ _ _ _ (fun _ _ z=>z) ?_;refine codeAny_handlers_suite_as (wpAny_setFlight_none hoe hde h1e hoT hdT (zq77.mp h3T).1 ?_);have n4:=kU hoT hdT ea;have hoe4:(h2.update T' (Obj.mapFields (·.setIfInBounds 3 .none))).get? ea=some oe:=(i3 _ _ hTe).trans hoe;have u4:=(u3.ntd n4 fl.ne nT'.1 fun b z=>nomatch z).track (o:=eL ea cls) fl.ne I1.hok;have ok4:=(ok3.ntd n4 fl.fe nT'.2 fun b z=>nomatch z).track (o:=eL ea cls) fl.fe (zAB (zAF oe hoe4 hcls hdi ⟨vs',hde⟩) ⟨oe,hoe4⟩ fun g1 g2 ⟨o,q1,q2⟩ kp=>zn o (kp o q1) q2);have I4:Inv X pins σ (upd H2 ea (eL ea cls)) {s' with heap:=h2.update T' (Obj.mapFields (·.setIfInBounds 3 .none))}:=I1.call' ho u4 ok4 hgn (fun b z=>nomatch z);have hσ:σ.length=X.N.length:=I4.len;have hkl:k<σ.length:=by rw [hσ];exact (zq17.mp hk).1
  refine dR (v:=.ref ea) I4 hN hk (.inl hn) rfl (fun s5 I5=>?_) hfn;refine wpAny_execs_cons (wpAny_Assign_Name ?_ hs2);obtain ⟨m5,hn5,hl5⟩:=id I5.loc;obtain ⟨u5,r5,l5⟩:=hl5 k n (.ref ea) hk (pC hkl) (.inl hn);obtain rfl:u5=.ref ea:=r5;have hm5:m5 n=some (.ref ea):=by
   rcases l5 with ⟨_,z⟩ | ⟨z,_⟩
   ·exact z
   ·rcases z with z | z
    ·have z2:X.env.scope.names.lookup n=some .cell:=z;rw [hn] at z2;cases z2
    ·have z2:X.env.scope.names.lookup n=some .free:=z;rw [hn] at z2;cases z2
  refine wpAny_Name (wpAny_loadName_local I5.ok.kind hn hn5 hm5 ?_) hdn;refine dR (v:=.ref ea) I5 hN hj hy rfl (fun s6 I6=>?_) hfy;refine wpAny_execs_nil ?_;obtain ⟨m6,hn6,hl6⟩:=id I6.loc;refine wpAny_nameGoes_keeps hn hn6 (by rw [I6.ok.kind];rfl) fun h7 v7 hn7 hs7=>?_;have neL:∀b o,X.s₀.heap.get? b=some o->b≠X.env.locals:=fun b o e=>cZ (el (bP e) I6.ok.above);have cne:=I6.cne;refine zAE _ (upd H2 ea (eL ea cls)) ⟨I6.ok,I6.os,I6.bare,⟨fun b o e n hb hx=>(hs7.2 b (neL b o e)).trans (I6.base.keep b o e n hb hx),fun b o e n hb hx=>?_,I6.base.free,fun b o e hx=>?_,I6.base.tups,I6.base.frzs,I6.base.tbls⟩,zn _ hn7 fun p z v' e1 e2 e3=>?_,fun z c e=>?_,I6.free,I6.freeC,fun p hp=>?_,fun b ob e=>?_,?_⟩ (hQ ea fl.fe)
  ·obtain ⟨sl,e1⟩:=I6.base.slot b o e n hb hx;exact ⟨sl,(hs7.2 b (neL b o e)).trans e1⟩
  ·obtain ⟨o',e1⟩:=I6.base.there b o e hx;exact ⟨o',(hs7.2 b (neL b o e)).trans e1⟩
  ·have hpk:p≠k:=fun z=>by
    rw [z,pC (by rw [sV];exact hkl)] at e2
    cases e2
   rw [pD (Ne.symm hpk)] at e2;have e4:((σ.set k (some (V.ref ea))).set j (some (V.ref ea)))[p]?=some (some v'):=by
    by_cases hpj:j=p
    ·have hjl:j<σ.length:=by rw [hσ];exact (zq17.mp hj).1
     rw [<- hpj,pC hjl] at e2;rw [<- hpj,pC (by rw [sV];exact hjl)];exact e2
    ·rw [pD hpj] at e2;rw [pD hpj,pD (Ne.symm hpk)];exact e2
   obtain ⟨u',r',q'⟩:=hl6 p z v' e1 e4 e3;refine zn u' r' ?_;rcases q' with ⟨kd,em⟩ | ⟨kd,c',ec,zc⟩
   ·refine .inl ⟨kd,?_⟩;show (if z=n then v7 else m6 z)=some u';rw [zq0 (fun w:z=n=>hpk (gO hN e1 (w ▸ hk)))];exact em
   ·exact .inr ⟨kd,zn c' ec (zc.sameBut hs7 (cne z c' ec))⟩
  ·obtain ⟨w',zc⟩:=I6.cell z c e;exact ⟨w',zc.sameBut hs7 (cne z c e)⟩
  ·obtain ⟨e,n,ne,nf,d⟩:=I6.pin p hp;exact zAH ((hs7.2 p.1 ne).trans e) n ne nf d
  ·have hfree:=I6.free;refine (I6.hok b ob e).stay (fun c w' hc q=>(hs7.2 c ?_).trans q) (fun _ q=>q) fun _ _ q=>q;rintro rfl;rcases hc with rfl | hc
   ·rw [hfree] at e;cases e
   ·rw [hfree] at hc;cases hc
  ·rw [sV,sV];exact hσ
end L2
namespace L2
section
variable {P:Program} {w:World} {K:W.Frag} {mg:Str->Option Value} {base:Heap}
theorem Fun.okX{x qual:Str}{st:Stmt}{f:Addr}{fd:FuncData}{N ps:List Str}{k:Nat}{sp:Sp}(F:Fun K x qual st f fd)(S:aG N ps (az st))(len:∀vs H Q E,sp vs H Q E->vs.length=ps.length)
  (hbody:∀(cdv:Value)(A:Around)(outer:List Env)(s:Shared)(H:Hp)(vs:List V)(Q:VK)(E:XK),Room k (A.deeper (envOfC qual (az st) s.heap.objs.size f cdv))->sp vs H Q E->
   ∃t,PSs (ek (CX1 P w) P w K mg base N qual (az st) f cdv A outer s H E) (cj st) t/\t {nx:=fun _ H'=>Q .non H',rt:=Q} (start N vs) H):FnOk P w K mg base (CX1 P w) (k+1) f fd ps sp:=by
 obtain ⟨oc,od,kV,doc,pm,an,cdv,ct,osl,rfl,lk,hcd⟩:=F.ex;exact vg lk hcd S len fun A outer s H vs Q E hr hsp=>hbody cdv A outer s H vs Q E hr hsp
end
theorem lO{P:Program}{w:World}{K:W.Frag}{mg:Str->Option Value}{base:Heap}{N:List Str}{qual:Str}{scope:Scope}{f:Addr}{cd:Value}{A:Around}{outer:List Env}{s0:Shared}{H0:Hp}{E:XK}{CX:CXT}:
  PassesOwn (model (ek CX P w K mg base N qual scope f cd A outer s0 H0 E).prog (ek CX P w K mg base N qual scope f cd A outer s0 H0 E).w) (ek CX P w K mg base N qual scope f cd A outer s0 H0 E).A (ek CX P w K mg base N qual scope f cd A outer s0 H0 E).env (ek CX P w K mg base N qual scope f cd A outer s0 H0 E).xe:=PassesOwn.leaving
structure IsX(K:W.Frag)(D:Addr):Prop where
 g:W.findIn K (.ref D) "__getattribute__"=some (some (.builtin "BaseException.__getattribute__"))
 h:W.findIn K (.ref D) "__getattr__"=some none
 c:W.hasDictIn K D=true
 a:W.findIn K (.ref D) "__class__"=some (some (.builtin "object.__class__"))
 n:W.specialIn K (.builtin "object.__class__") "__get__"=some (some (.builtin "getset_descriptor.__get__"))
 t:W.takesIn K (.builtin "object.__class__")=some true
 m:W.mroIn K D (.type "object")=some true
 b:W.mroIn K D (.type "BaseException")=some true
def ExAt(x D:Addr)(h:Heap):Prop:=∃o,h.get? x=some o/\o.cls=.ref D/\o.dict=none/\∃vs,o.data=.fields vs
theorem ExAt.inst{x D:Addr}{h:Heap}(p:ExAt x D h):∃o,W.InstAt h x o D none:=by obtain ⟨o,h1,h2,h3,vs,h4⟩:=p;exact ⟨o,h1,h2,by unfold W.notCls;rw [h4],by rw [h3];trivial⟩
open PySem.W in
theorem om{prog:Program}{w:World}{A:Around}{E:Value->Shared->Prop}{s:Shared}{K:W.Frag}{x D:Addr}{o:Obj}{Q:Option Value->Shared->Prop}(z:IsX K D)(X:K.In s.heap)(I:W.InstAt s.heap x o D none)(h:Q (some (.ref D)) {s with toks:=s.toks+1}):
  wpAny (model prog w) A (getAttr? (.ref x) "__class__") Q E s:=by
 have hf:W.findObj K D none "__class__"=some (.bind (.builtin "getset_descriptor.__get__") (.builtin "object.__class__")):=by obtain ⟨cd,hc,_⟩:=W.any_some z.c;unfold W.findObj;rw [hc,Option.bind_some,z.a,Option.bind_some];simp [z.n,z.t]
 obtain ⟨hh,g,d,t,os⟩:=s;have L0:=I.type (M:=model prog w);have L1:=looks_findIn (M:=model prog w) X z.g;have L2:=looks_find (M:=model prog w) X I hf;have L3:=looks_hook (M:=model prog w) (mc:=.ref D) X (r:=none) (by rw [zq1 (show onTheHeap (.ref D)=true from rfl)];exact z.h);unfold getAttr? getAttrBy? getAttrBy;refine zq7 (wpAny_mkText (zq7 (wpAny_attempt (kJ (zq7 (L0.at (zq7 (L1.at ?_))))))));dsimp only;rw [show (onTheHeap (Value.ref D)&&Value.builtin "BaseException.__getattribute__"==Value.builtin "object.__getattribute__")=false from by rw [show (Value.builtin "BaseException.__getattribute__"==Value.builtin "object.__getattribute__")=false from by decide +kernel,pF],zq0 Jm];refine zq7 (L3.at (zq7 (wpAny_attempt (kJ ?_))));unfold callGetattribute;rw [dW,zq0 Jm];unfold boundAndCalled;rw [F.excAttr_ValueError.ga.bind];refine zq7 (cu ?_);show wpAny _ _ (call (.builtin "BaseException.__getattribute__") [.ref x,.str "__class__" t]) _ _ _;refine wpAny_call (codeAny_call_builtin F.excAttr_ValueError.ga.plain F.entry_bexc_ga ?_);refine @check_slot (model prog w) _ _ ⟨hh,g,d,t+1,os⟩ "BaseException.__getattribute__" "BaseException" "__getattribute__" (.ref x) [.str "__class__" t] [] _ Jk Jk (L0.andThen (looks_mroIn X z.b)) (F.args_bexc_ga (.ref x) (.str "__class__" t)) ?_;have key:wpAny (model prog w) A.in1 (holding [Value.builtin "object.__class__"] (call (.builtin "getset_descriptor.__get__") [.builtin "object.__class__",.ref x,.ref D]) >>= ret) (fun fin s'=>fin=.done (.ret (.ref D))/\s'=⟨hh,g,d,t+1,os⟩) (fun _ _=>False) ⟨hh,g,d,t+1,os⟩:=
  zq7 (kJ (wpAny_call (class_get (s:=⟨hh,g,d,t+1,os⟩) (ox:=o) (od:=none) X I z.m (cu ⟨rfl,rfl⟩))))
 unfold Builtin.«object.__getattribute__»;refine zq7 ?_;refine cu ?_;refine zq7 (cu ?_);refine zq7 (L0.at (zq7 (L2.at ?_)));refine fO key (fun fin s' hhx=>?_) fun _ _ z=>z.elim;obtain ⟨e1,e2⟩:=hhx;subst e1 e2;exact handed_on rfl (cu h)
theorem jV{K:W.Frag}{x D:Addr}(z:IsX K D):W.KitX K (.ref x) (.ref D) (ExAt x D) where
 ty:=fun _ _ _ p=>let ⟨_,I⟩:=p.inst;I.type
 it:=fun _ _ X _=>by
  obtain ⟨cdD,hcD,_⟩:=W.any_some z.c;unfold W.clsIn at hcD
  split at hcD
  ·rename_i c' d' cd' sl' ho
   intro A' Q' E' s' k q;unfold isType loadHead;exact zq7 (wpAny_loadPart (k _ _ (X _ _ ho)) (cu q))
  ·cases hcD
 ne:=fun h tp dd its n sl X htp=>by
  obtain ⟨cdD,hcD,_⟩:=W.any_some z.c;refine zq62.mpr fun q=>?_;obtain rfl:D=tp:=Value.ref.inj (zq65.mp q);unfold W.clsIn at hcD
  split at hcD
  ·rename_i c' d' cd' sl' ho
   cases (X _ _ ho).symm.trans htp
  ·cases hcD
 ca:=fun X p k=>by obtain ⟨o,I⟩:=p.inst;exact om z X I k
section
variable {X:Cx}
theorem zl{pins:List (Addr×Obj)}{σ:St}{H:Hp}{s:Shared}{a D:Addr}(I:Inv X pins σ H s)(ha:H a=some (eL a (.ref D))):ExAt a D s.heap:=(I.hok a _ ha).1
def vq(K:W.Frag):List V->Hp->VK->Prop:=fun xs H Q=>∃(a D c:Addr)(b:Bool),xs=[.ref a,.ref c]/\H a=some (eL a (.ref D))/\IsX K D/\W.kitOne K (.ref D) (.ref c)=some b/\Q (.bl b) H
def xG(K:W.Frag):List V->Hp->VK->Prop:=fun xs H Q=>∃(a D c:Addr)(cs:List Addr)(b:Bool),xs=[.ref a,.ref c]/\H a=some (eL a (.ref D))/\H c=some (.tup (cs.map V.ref))/\IsX K D/\W.kitAny K (.ref D) (cs.map Value.ref)=some b/\Q (.bl b) H
theorem nX:cv X (.builtin "isinstance") (vq X.K):=by
 intro pins s σ H xs us Q I r h;obtain ⟨a,D,c,b,rfl,ha,hD,hc,q⟩:=h;obtain ⟨u,v,rfl,ru,rv⟩:=sr r
 cases ru
 cases rv
 exact W.kia_one (jV hD) I.kIn (zl I ha) hc (fun e=>by cases e) fun tk=>zAA (.bl b) H (I.tok _) rfl q
variable {k:Nat} {f C:Addr} {fd:FuncData} {ps:List Str} {sp:Sp} {E:XK} {x m qual:Str} {st:Stmt} {p pos apos np cpos:Pos} {e o:Expr} {es:List Expr} {ta:TE} {t:TA}
theorem bq(rt:iW X E)(hc:X.calm=true)(hm:X.mg x=some (.ref C))(q:W.excIn X.K C bmV "ValueError.__new__"=true) (ha:XA X (e::es) t) (hg:Gl X x)
  (hdb:(x==("__debug__":Str))=false:=by kernel_rfl) (he:starEach (e::es) X.env=(false,eval e X.env)::starEach es X.env:=by rfl) (hpl:(backTo cpos (starEach es X.env)).any (·.1)=false:=by rfl) :
  XS X (.Raise (some (.Call (.Name x np) (e::es) [] cpos)) none pos) (m7 E C t):=⟨rh rt hc hm q ha.h hg hdb he hpl⟩
theorem iS(D:bf X.K X.mg x st ps f fd)(G:FnOk X.prog X.w X.K X.mg X.base (CX1 X.prog X.w) k f fd ps sp)(hr:Room k X.A)(hx:cH (CX1 X.prog X.w) X E)(ha:XA X (e::es) t)(hg:Gl X x)
  (hdb:(x==("__debug__":Str))=false:=by kernel_rfl) (he:starEach (e::es) X.env=(false,eval e X.env)::starEach es X.env:=by rfl) (hpl:(backTo pos (starEach es X.env)).any (·.1)=false:=by rfl) :
  XE X (.Call (.Name x p) (e::es) [] pos) (iN sp [] E t):=⟨nh G hr hg D.M D.F.kp D.B .nil hx ha.h hdb he hpl⟩
theorem b4{pl:Sem Bool}(c:Cls X.K C)(D:bv X.K C m qual st ps f fd)(G:FnOk X.prog X.w X.K X.mg X.base (CX1 X.prog X.w) k f fd ps sp)(hr:Room k X.A)(hx:cH (CX1 X.prog X.w) X E)(he:XE X o ta)(ha:XA X (e::es) t)
  (hst:starEach (e::es) X.env=(false,eval e X.env)::starEach es X.env:=by rfl) (hpl:(backTo pos (starEach es X.env)).any (·.1)=false:=by rfl)
  (ht:eval (.Call (.Attribute o m apos) (e::es) [] pos) X.env=(do
   let ov <- eval o X.env
   standAt apos.atName
   let (f,first) <- holding [ov] (getMethod ov m pl)
   callWith pos f first (backTo pos (starEach (e::es) X.env)) (backToKw pos (keywordEach [] X.env))):=by rfl) :
  XE X (.Call (.Attribute o m apos) (e::es) [] pos) (eK C m sp [] E ta t):=⟨jk he.h c D.M G hr D.B .nil hx ha.h hst hpl ht⟩
theorem eP{pl:Sem Bool}(c:Cls X.K C)(D:bv X.K C m qual st ps f fd)(G:FnOk X.prog X.w X.K X.mg X.base (CX1 X.prog X.w) k f fd ps sp)(hr:Room k X.A)(hx:cH (CX1 X.prog X.w) X E)(he:XE X o ta)
  (ht:eval (.Call (.Attribute o m apos) [] [] pos) X.env=(do
   let ov <- eval o X.env
   standAt apos.atName
   let (f,first) <- holding [ov] (getMethod ov m pl)
   callWith pos f first (backTo pos (starEach [] X.env)) (backToKw pos (keywordEach [] X.env))):=by rfl) :
  XE X (.Call (.Attribute o m apos) [] [] pos) (eK C m sp [] E ta m4):=⟨ki he.h c D.M G hr D.B .nil hx ht⟩
theorem sy{y n c fx:Str}{i j l:Nat}{px pf pc pa pcn py pn pb ph:Pos}(D0:bf X.K X.mg fx st ps f fd)(G:FnOk X.prog X.w X.K X.mg X.base (CX1 X.prog X.w) k f fd ps sp)(hr:Room k X.A)
  (ha:XA X.nox (e::es) t) (hg:Gl X fx) (hN:X.N.Nodup) (hi:X.N[i]?=some x) (hx:Loc X.env.scope x) (hj:X.N[j]?=some y) (hy:Loc X.env.scope y) (hl:X.N[l]?=some n) (hn:X.env.scope.names.lookup n=some .local) (hgc:Gl X c) (hmc:X.mg c=some (.ref C))
  (hst:X.stack=X.env::X.outer:=by rfl) (hfr:X.env.frame=some X.env.locals:=by rfl) (hdb:(fx==("__debug__":Str))=false:=by kernel_rfl) (hdc:(c==("__debug__":Str))=false:=by kernel_rfl) (hdn:(n==("__debug__":Str))=false:=by kernel_rfl)
  (he:starEach (e::es) X.env=(false,eval e X.env)::starEach es X.env:=by rfl) (hpl:(backTo pc (starEach es X.env)).any (·.1)=false:=by rfl)
  (hs1:swapsWith (.Call (.Name fx pf) (e::es) [] pc) (some (.Name x px)) pa.line X.env=pure false:=by rfl) (hs2:swapsWith (.Name n pn) (some (.Name y py)) pb.line X.env=pure false:=by rfl)
  (hfx:X.fn x=true\/X.env.scope.names.lookup x=some .local:=by first | exact .inl rfl | exact .inr rfl | assumption) (hfy:X.fn y=true\/X.env.scope.names.lookup y=some .local:=by first | exact .inl rfl | exact .inr rfl | assumption) (hfn:X.fn n=true\/X.env.scope.names.lookup n=some .local:=by first | exact .inl rfl | exact .inr rfl | assumption) :
  XS X (.Try [.Assign [.Name x px] (.Call (.Name fx pf) (e::es) [] pc) pa] [.ExceptHandler (some (.Name c pcn)) (some n) [.Assign [.Name y py] (.Name n pn) pb] ph] [] [] pos) (yT X.K sp C i j l t):=
 ⟨ux D0 G hr ha.h hg hN hi hx hj hy hl hn hgc hmc hst hfr hdb hdc hdn he hpl hs1 hs2 hfx hfy hfn⟩
end
section
variable {K:W.Frag} {H:Hp} {Q:VK} {σ:St} {D:cG}
theorem uL{E:XK}{C:Addr}{t:TA}:m7 E C t D σ H=t σ H fun vs H1=>vs.length<=sizeLine/\E (.ref C) none H1:=rfl
theorem Ap{sp:Sp}{C:Addr}{i j k:Nat}{t:TA}:yT K sp C i j k t D σ H=t σ H fun vs H1=>sp vs H1 (fun v H2=>D.nx (σ.set i (some v)) H2) (fun cls _ H2=>W.exmOne K cls (.ref C)=some true/\∀ea:Addr,H2 ea=none->D.nx ((σ.set j (some (.ref ea))).set k none) (upd H2 ea (eL ea cls))):=rfl
theorem yc{a c:Addr}:vq K [.ref a,.ref c] H Q=∃(D:Addr)(b:Bool),H a=some (eL a (.ref D))/\IsX K D/\W.kitOne K (.ref D) (.ref c)=some b/\Q (.bl b) H:=propext ⟨by rintro ⟨_,D,_,b,e,q⟩;cases e;exact zAJ D b q,fun ⟨D,b,q⟩=>zAO _ D _ b rfl q⟩
theorem uG{a c:Addr}:xG K [.ref a,.ref c] H Q=∃(D:Addr)(cs:List Addr)(b:Bool),H a=some (eL a (.ref D))/\H c=some (.tup (cs.map V.ref))/\IsX K D/\W.kitAny K (.ref D) (cs.map Value.ref)=some b/\Q (.bl b) H:=propext ⟨by rintro ⟨_,D,_,cs,b,e,q⟩;cases e;exact zAR D cs b q,fun ⟨D,cs,b,q⟩=>zAT _ D _ cs b ⟨rfl,q⟩⟩
end
end L2
end
namespace J3
open PySem L2 FA FB FS GT PyProof.Rows
variable {k x:Str} {l σ:List Str}
def okX(t:Str):Prop:=fZ t=true/\32∉t.cps.toList/\t.length<=20/\(c7 t=true->t.length<=3)
def okT(ts:List Str):Prop:=ts≠[]/\ts.length<=9/\∀t∈ts,okX t
theorem jr{ts:List Str}(h:okT ts):Txt.split (jn ts) " "=ts:=by unfold jn;rw [zg];exact GQ.lW h.1 fun p hp=>(h.2.2 p hp).2.1
theorem u0{ts:List Str}(h:okT ts):(jn ts).length<=189:=by have:=jU (ts:=ts) fun t ht=>(h.2.2 t ht).2.2.1;have:=h.2.1;omega
def OkL(x:Str):Prop:=∃ts,x=jn ts/\okT ts
def bJ(x:Str):Nat:=x.cps.toList.foldl (fun n c=>10 * n+(c-48)) 0
theorem zB:(∀a,a<10->toString ((a:Nat):Int)=(⟨#[48+a]⟩:Str))/\(∀a,a<10->∀b,b<10->a≠0->toString ((10 * a+b:Nat):Int)=(⟨#[48+a,48+b]⟩:Str))/\
  (∀a,a<10->∀b,b<10->∀c,c<10->a≠0->toString ((100 * a+(10 * b+c):Nat):Int)=(⟨#[48+a,48+b,48+c]⟩:Str)):=by
 refine zAB ?_ ?_ ?_<;>decide +kernel
theorem iB(h:c7 x=true):x.cps.toList≠[]/\(∀c∈x.cps.toList,48<=c/\c<=57)/\(x="0"\/x.cps.toList.head?≠some 48):=by unfold c7 at h;simp only [Bool.and_eq_true,decide_eq_true_eq,Bool.or_eq_true,List.all_eq_true] at h;obtain ⟨⟨h1,h2⟩,h3⟩:=h;refine zAB (fun z=>h1 (GQ.toList_inj (by rw [z];decide +kernel))) h2 (h3.imp id fun z=>?_);rw [List.head?_eq_getElem?,v2];exact z
theorem jd(h:c7 x=true)(h3:x.length<=3):(toString ((bJ x:Nat):Int):Str)=x/\bJ x<1000:=by
 obtain ⟨h1,h2,hz⟩:=iB h;have hl:x.cps.toList.length<=3:=h3;obtain ⟨⟨l⟩⟩:=x;unfold bJ;dsimp only at h1 h2 hl hz ⊢;obtain ⟨n1,n2,n3⟩:=zB
 match l,h1,hl,h2,hz with
 | [a],_,_,h2,hz=>
  have ha:=h2 a Jo;have z:=n1 (a-48) Jn;rw [show 48+(a-48)=a by omega] at z;refine ⟨by simpa using z,by simp;omega⟩
 | [a,b],_,_,h2,hz=>
  have ha:=h2 a Jo;have hb:=h2 b Jo;have n0:a≠48:=by
   rcases hz with z | z
   ·exact absurd (congrArg (fun s:Str=>s.cps.size) z) (by rw [show (Str.ofString "0").cps.size=1 by decide +kernel];simp)
   ·simpa using z
  have z:=n2 (a-48) Jn (b-48) Jn Jn;rw [show 48+(a-48)=a by omega,show 48+(b-48)=b by omega] at z;refine ⟨by simpa using z,by simp;omega⟩
 | [a,b,c],_,_,h2,hz=>
  have ha:=h2 a Jo;have hb:=h2 b Jo;have hc:=h2 c Jo;have n0:a≠48:=by
   rcases hz with z | z
   ·exact absurd (congrArg (fun s:Str=>s.cps.size) z) (by rw [show (Str.ofString "0").cps.size=1 by decide +kernel];simp)
   ·simpa using z
  have z:=n3 (a-48) Jn (b-48) Jn (c-48) Jn Jn;rw [show 48+(a-48)=a by omega,show 48+(b-48)=b by omega,show 48+(c-48)=c by omega] at z;refine ⟨?_,by simp;omega⟩;rw [<- z];congr 1;simp;omega
theorem gE:∀(l:List Nat)(n:Nat),(∀c∈l,48<=c)->l.foldl (fun n c=>10 * n+(c-48)) n=0->n=0/\∀c∈l,c=48
 | [],n,_,h=>⟨h,fun c hc=>by cases hc⟩
 |c::l,n,hl,h=>by
  obtain ⟨h1,h2⟩:=gE l (10 * n+(c-48)) (fun x hx=>hl x (bH _ hx)) h;have:=hl c (bV ..);exact ⟨Jn,fun x hx=>by
   rcases zq4.mp hx with z | z
   ·omega
   ·exact h2 x z⟩
theorem qI(h:c7 x=true)(h0:bJ x=0):x="0":=by
 obtain ⟨h1,h2,hz⟩:=iB h;rcases hz with z | z
 ·exact z
 ·exfalso;obtain ⟨_,h3⟩:=gE _ _ (fun c hc=>(h2 c hc).1) h0
  cases e:x.cps.toList with
  |nil=>exact h1 e
  |cons c l=>rw [e] at z h3;exact z (by rw [List.head?_cons,h3 c (bV ..)])
section
variable (ns:List Str) (most:Nat)
def opF(x:Str):Option Opd:=if c7 x=true then (if bJ x<most then some (.word (bJ x:Nat)) else none) else if x∈ns then some (.box x) else none
def asF:List Str->Option Deed
 | [n,_,x]=>if n∈ns then (opF ns most x).map (.copy n ·) else none
 | [n,_,x,k,y]=>if n∈ns/\k∈FB.opsL then (match opF ns most x,opF ns most y with | some a,some b=>some (.op k n a b) | _,_=>none) else none
 |_=>none
def dz(σ:List Str)(n:Nat)(l:List Str):Option (List Str×Nat):=
 if l[1]?=some ("=":Str) then (if (asF ns most l).isSome=true then some (σ,n+1) else none)
 else if l=[("end":Str)]/\σ≠[] then some (σ.tail,n)
 else if l=[("else":Str)]/\σ.head?=some ("if":Str) then some (("else":Str)::σ.tail,n)
 else match l with
  | [k,x]=>
   if k="tell" then (if (opF ns most x).isSome=true then some (σ,n+1) else none)
   else if (k="if"\/k="while")/\x∈ns then (if 8<σ.length+1 then none else some (k::σ,n+1))
   else none
  |_=>none
def aI:List Str->Nat->List (List Str)->Option Nat
 |σ,n,[]=>if σ=[]/\n<=40 then some n else none
 |σ,n,l::r=>(dz ns most σ n l).bind fun p=>aI p.1 p.2 r
def Adv(d:Nat)(ls:List (List Str))(n:Nat)(ls':List (List Str))(n':Nat):Prop:=∀σ:List Str,σ.length=d->aI ns most σ n ls=aI ns most σ n' ls'
def pJ(d:Nat)(ls:List (List Str))(n:Nat):Prop:=∀σ:List Str,σ.length=d->aI ns most σ n ls=none
end
section
variable {ns:List Str} {most:Nat}
theorem mV{σ':List Str}{n n':Nat}(h:dz ns most σ n l=some (σ',n')):n<=n'/\(l≠[("end":Str)]->l≠[("else":Str)]->n'=n+1):=by
 unfold dz at h
 split at h
 ·split at h
  ·cases h;exact ⟨Jn,fun _ _=>rfl⟩
  ·cases h
 split at h
 ·next z=>cases h;exact ⟨zq9 _,fun a=>absurd z.1 a⟩
 split at h
 ·next z=>cases h;exact ⟨zq9 _,fun _ a=>absurd z.1 a⟩
 split at h
 ·split at h
  ·split at h
   ·cases h;exact ⟨Jn,fun _ _=>rfl⟩
   ·cases h
  ·split at h
   ·split at h
    ·cases h
    ·cases h;exact ⟨Jn,fun _ _=>rfl⟩
   ·cases h
 ·cases h
theorem mE:∀{ls:List (List Str)} {σ:List Str} {n m:Nat},aI ns most σ n ls=some m->n<=m/\m<=40
 | [],σ,n,m,h=>by
  rw [aI] at h
  split at h
  ·next z=>cases h;exact ⟨zq9 _,z.2⟩
  ·cases h
 |l::r,σ,n,m,h=>by rw [aI] at h;obtain ⟨p,hp,h2⟩:=zq114.mp h;have h1:=mV (σ':=p.1) (n':=p.2) hp;have h3:=mE h2;omega
theorem nU{ls:List (List Str)}{n:Nat}(h:40<n):aI ns most σ n ls=none:=by
 cases e:aI ns most σ n ls with
 |none=>rfl
 |some m=>have:=mE e;omega
theorem mm{n:Nat}{r:List (List Str)}(h:l[1]?=some ("=":Str)):aI ns most σ n (l::r)=if (asF ns most l).isSome=true then aI ns most σ (n+1) r else none:=by
 rw [aI];unfold dz;rw [zq1 h]
 split<;>rfl
theorem ve{n:Nat}{r:List (List Str)}:aI ns most (k::σ) n ([("end":Str)]::r)=aI ns most σ n r:=by rw [aI];unfold dz;rw [zq0 Jo,zq1 ⟨rfl,Jo⟩];rfl
theorem pR{n:Nat}{r:List (List Str)}:aI ns most [] n ([("end":Str)]::r)=none:=by rw [aI];unfold dz;rw [zq0 Jo,zq0 Jo,zq0 Jo];rfl
theorem pQ{n:Nat}{r:List (List Str)}:aI ns most (("if":Str)::σ) n ([("else":Str)]::r)=aI ns most (("else":Str)::σ) n r:=by rw [aI];unfold dz;rw [zq0 Jo,zq0 (fun z=>absurd z.1 Jk),zq1 ⟨rfl,rfl⟩];rfl
theorem gj{n:Nat}{r:List (List Str)}(h:σ.head?≠some ("if":Str)):aI ns most σ n ([("else":Str)]::r)=none:=by rw [aI];unfold dz;rw [zq0 Jo,zq0 (fun z=>absurd z.1 Jk),zq0 (fun z=>h z.2)];rfl
theorem zf{n:Nat}:aI ns most (k::σ) n []=none:=by rw [aI,zq0 Jo]
theorem m9(h:x≠"="):¬([k,x]:List Str)[1]?=some ("=":Str):=fun z=>h (Option.some.inj z)
theorem gz{n:Nat}{r:List (List Str)}(h:x≠"="):aI ns most σ n ([("tell":Str),x]::r)=if (opF ns most x).isSome=true then aI ns most σ (n+1) r else none:=by
 rw [aI];unfold dz;rw [zq0 (m9 h),zq0 Jo,zq0 Jo];dsimp only;rw [zq1 rfl]
 split<;>rfl
theorem dJ{n:Nat}{r:List (List Str)}(h:x≠"=") (hk:k="if"\/k="while"):aI ns most σ n ([k,x]::r)=if x∈ns then (if 8<σ.length+1 then none else aI ns most (k::σ) (n+1) r) else none:=by
 rw [aI];unfold dz;rw [zq0 (m9 h),zq0 Jo,zq0 Jo];dsimp only;rw [zq0 (by rcases hk with rfl | rfl<;>decide +kernel)]
 by_cases hx:x∈ns
 ·rw [zq1 ⟨hk,hx⟩,zq1 hx]
  split<;>rfl
 ·rw [zq0 (fun z=>hx z.2),zq0 hx];rfl
theorem gx{n:Nat}{r:List (List Str)}(h1:¬l[1]?=some ("=":Str)) (h2:l≠[("end":Str)]) (h3:l≠[("else":Str)]) (h4:∀k x,l=[k,x]->k≠"tell"/\k≠"if"/\k≠"while"):aI ns most σ n (l::r)=none:=by
 rw [aI];unfold dz;rw [zq0 h1,zq0 (fun z=>h2 z.1),zq0 (fun z=>h3 z.1)]
 split
 ·next k x=>obtain ⟨a,b,c⟩:=h4 k x rfl;rw [zq0 a,zq0 (fun z=>z.1.elim b c)];rfl
 ·rfl
theorem wQ{n:Nat}{r:List (List Str)}(h:40<n+1)(h2:l≠[("end":Str)]) (h3:l≠[("else":Str)]):aI ns most σ n (l::r)=none:=by
 rw [aI]
 cases e:dz ns most σ n l with
 |none=>rfl
 |some p=>have:=(mV (σ':=p.1) (n':=p.2) e).2 h2 h3;exact nU Jn
end
def hdF(w:Str)(l:List Str):Option Str:=match l with
 | [k,x]=>if k=w then some x else none
 |_=>none
theorem kX{w:Str}(h:hdF w l=some x):l=[w,x]:=by
 unfold hdF at h
 split at h
 ·split at h
  ·next z=>cases h;rw [z]
  ·cases h
 ·cases h
def d5(w:Str):List Str->List (List Str)->Option (List Str×List (List Str))
 |bs,[]=>some (bs,[])
 |bs,l::r=>match hdF w l with
  |some x=>if x="=" then some (bs,l::r) else if aX x=true/\x∉bs then d5 w (bs++[x]) r else none
  |none=>some (bs,l::r)
def bK(w:Str):List (List Str)->List Str×List (List Str)
 | []=>([],[])
 |l::r=>match hdF w l with
  |some x=>if aX x=true then (x::(bK w r).1,(bK w r).2) else ([],l::r)
  |none=>([],l::r)
theorem gm(w:Str):∀(ls:List (List Str)) (bs:List Str),bs.Nodup->(∃b r,d5 w bs ls=some (b,r)/\b=bs++(bK w ls).1/\r=(bK w ls).2/\b.Nodup)\/
  (d5 w bs ls=none/\(¬(bs++(bK w ls).1).Nodup\/∃x r,(bK w ls).2=[w,x]::r/\x≠"="/\aX x=false))
 | [],bs,hb=>.inl (zAC bs ([]) rfl (by rw [bK,gg]) rfl hb)
 |l::r,bs,hb=>by
  rw [d5,bK]
  cases hd:hdF w l with
  |none=>exact .inl (zAC bs _ rfl (by rw [gg]) rfl hb)
  |some x=>
   dsimp only
   by_cases hx0:x="="
   ·rw [zq1 hx0,zq0 (fun z=>mY z hx0)];exact .inl (zAC bs _ rfl (by rw [gg]) rfl hb)
   rw [zq0 hx0]
   by_cases hn:aX x=true
   ·rw [zq1 hn]
    by_cases hx:x∈bs
    ·refine .inr ⟨by rw [zq0 (fun z=>z.2 hx)],.inl fun z=>?_⟩;rw [zq74] at z;exact absurd rfl (z.2.2 x hx x (bV ..))
    ·have hb2:(bs++[x]).Nodup:=zq74.mpr (zAB hb Jo (fun a ha b hb e=>hx (by rw [zq15.mp hb] at e;rw [<- e];exact ha)));rw [zq1 ⟨hn,hx⟩];have z:=gm w r (bs++[x]) hb2;rw [mh,List.singleton_append] at z;exact z
   ·rw [zq0 (fun z=>hn z.1),zq0 hn];exact .inr ⟨rfl,.inr (zAA x r (by rw [kX hd]) hx0 (by simpa using hn))⟩
theorem oO{w v:Str}{r:List (List Str)}(h:v≠w):bK w ([v,x]::r)=([],[v,x]::r):=by
 have e:hdF w [v,x]=none:=by unfold hdF;dsimp only;rw [if_neg h]
 rw [bK,e]
theorem pS{ns:List Str}{most n:Nat}{w:Str}{r:List (List Str)}(h:x≠"=") (h1:w≠"tell") (h2:w≠"if") (h3:w≠"while"):aI ns most σ n ([w,x]::r)=none:=
 gx (m9 h) Jo Jo fun k y e=>by cases e;exact zAB h1 h2 h3
def ir(most:Nat)(r:List (List Str)):Option Nat:=match d5 "in" [] r with
 |none=>none
 |some (b1,r1)=>if 4<b1.length then none else match d5 "box" b1 r1 with
  |none=>none
  |some (b2,r2)=>if 8<b2.length then none else aI b2 most [] 0 r2
theorem tU(most:Nat)(r:List (List Str)):ir most r=if (bK "in" r).1.length<=4/\((bK "in" r).1++(bK "box" (bK "in" r).2).1).length<=8/\((bK "in" r).1++(bK "box" (bK "in" r).2).1).Nodup then
  aI ((bK "in" r).1++(bK "box" (bK "in" r).2).1) most [] 0 (bK "box" (bK "in" r).2).2 else none:=by
 unfold ir;rcases gm "in" r [] sM with ⟨b1,r1,e1,hb,hr,nd⟩ | ⟨e1,h⟩
 ·rw [e1];rw [sQ] at hb;subst hb hr;dsimp only
  by_cases h4:4<(bK "in" r).1.length
  ·rw [zq1 h4,zq0 (fun z=>Jn)]
  ·rw [zq0 h4];rcases gm "box" (bK "in" r).2 _ nd with ⟨b2,r2,e2,hb2,hr2,nd2⟩ | ⟨e2,h⟩
   ·rw [e2];subst hb2 hr2;dsimp only
    by_cases h8:8<((bK "in" r).1++(bK "box" (bK "in" r).2).1).length
    ·rw [zq1 h8,zq0 (fun z=>Jn)]
    ·rw [zq0 h8,zq1 ⟨Jn,Jn,nd2⟩]
   ·rw [e2];dsimp only
    split
    ·next z=>
     rcases h with h | ⟨x,r',e,h1,h2⟩
     ·exact absurd z.2.2 h
     ·rw [e,pS h1 Jk Jk Jk]
    ·rfl
 ·rw [e1];dsimp only
  split
  ·next z=>
   rcases h with h | ⟨x,r',e,h1,h2⟩
   ·exact absurd (zq74.mp z.2.2).1 (by simpa using h)
   ·rw [e,oO Jk,pS h1 Jk Jk Jk]
  ·rfl
def stF:List (List Str)->Option Nat
 | [w,t]::r=>if w="width"/\c7 t=true/\bJ t<9/\t≠"0" then ir (2 ^ bJ t) r else none
 |_=>none
end J3
namespace L2
open PySem PySem.Spec PyProof.Rows
theorem gX{h:Heap}:∀{ts:List Str} {us:List Value},Vals (ts.map V.str) us->ReadsAll h us (ts.map PyData.str) []
 | [],_,r=>by cases r;exact .nil
 |t::ts,_,r=>by
  cases r with
  |cons a b=>obtain ⟨k,rfl⟩:=a;exact .cons (as:=[]) (bs:=[]) (.str _ _) (gX b)
theorem gZ:∀ts:List Str,PyData.shownAll (ts.map PyData.str)=ts.map reprText
 | []=>rfl
 |t::ts=>by rw [dX,PyData.shownAll,gZ ts];rfl
theorem eI:∀ts:List Str,PyData.showableAll (ts.map PyData.str)=true
 | []=>rfl
 |t::ts=>by rw [dX,PyData.showableAll,eI ts];rfl
theorem gC:∀ts:List Str,PyData.depthAll (ts.map PyData.str)=0
 | []=>rfl
 |t::ts=>by rw [dX,PyData.depthAll,gC ts];rfl
theorem fX:∀ts:List Str,PyData.hasDictAll (ts.map PyData.str)=false
 | []=>rfl
 |t::ts=>by rw [dX,PyData.hasDictAll,fX ts];rfl
def shW(x:Str):Prop:=x.length<=1000/\∀c∈x.cps.toList,c<16 ^ 8
theorem iK:∀ts:List Str,(∀t∈ts,shW t)->((ts.map reprText).map (·.length)).sum<=10002 * ts.length
 | [],_=>eC _
 |t::ts,h=>by have h1:=PySem.StrLaws.reprText_len t (h t (bV ..)).2;have h2:=(h t (bV ..)).1;have h3:=iK ts fun x hx=>h x (bH _ hx);simp only [List.map_cons,List.sum_cons,List.length_cons];omega
section
variable {X:Cx}
def tFs(K:W.Frag)(te:TE):TE:=fun σ H Q=>te σ H fun x H1=>((∃s,x=.str s/\shW s)\/∃(a:Addr)(ts:List Str),x=.ref a/\H1 a=some (.lst (ts.map V.str))/\ts.length<=100/\∀t∈ts,shW t)/\∀t,Q (.str t) H1
theorem dS{c:Str}{j:Nat}{e:Expr}{te:TE}{pc pf pos:Pos}(hg:X.A.guards=some [])(hu:X.A.units+8<cLine)(hc:c.length<=1000)(he:XE X e te):XE X (.JoinedStr [.Constant (.str c) j pc,.FormattedValue e 114 none pf] pos) (tFs X.K te):=⟨by
 intro pins s σ H Q I h;refine JoinedStr_many (joinParts_cons (Calls.Constant_str ?_));refine ⟨by rw [strLen_append,zq3];show 0+c.length<=_;omega,joinParts_cons ?_⟩;refine wpAny_FormattedValue_repr (thn (he.h pins _ σ H _ (I.tok _) h) fun v s1 hhx=>?_);obtain ⟨x,H1,I1,rx,hx,q⟩:=hhx;have fin:∀(r:Str)(u:Tok)(s2:Shared),Inv X pins σ H1 s2->r.length<=1010000->wpAny (model X.prog X.w) X.A (formatField (.str r u) Str.empty) (fun v s₁=>match v with | .str y _=>((Str.empty++c)++y).length<=sizeLine/\wpAny (model X.prog X.w) X.A (joinParts ((Str.empty++c)++y) []) (EP X pins σ Q) X.xe s₁ | _=>False) X.xe s2:=fun r u s2 I2 hr=>by
  have hl:((Str.empty++c)++r).length<=sizeLine:=by rw [strLen_append,strLen_append,zq3];show 0+c.length+r.length<=_;omega
  exact formatField_str (fun t' tk=>⟨hl,joinParts_nil (zAA (.str _) H1 ((I2.tok _).tok _) ⟨_,rfl⟩ (q _)) hl⟩) (by rw [zq3];omega)
 rcases hx with ⟨z,rfl,hz⟩ | ⟨a,ts,rfl,ha,hl,hts⟩
 ·obtain ⟨t,rfl⟩:=rx;have hr:=PySem.StrLaws.reprText_len z hz.2;have:=hz.1;exact wpAny_pyReprObj_str (fin _ _ _ (I1.tok _) Jn) (by rw [zq3];omega)
 ·cases rx
  obtain ⟨_,its,n,r,e1⟩:=I1.hok _ _ ha;have hsh:(PyData.list (ts.map PyData.str)).shown=listText (ts.map reprText):=by rw [PyData.shown,gZ]
  have hlen:=listText_len_le (ts.map reprText);have hsm:=iK ts hts;rw [zq2] at hlen;have hsz:(PyData.list (ts.map PyData.str)).shown.length<=1010000:=by rw [hsh];omega
  refine pyReprObj_of_reads (d:=.list (ts.map PyData.str)) (.list e1 rfl rfl (by simpa using gX r)) (by rw [PyData.showable];exact eI ts) (fun z=>?_) hg ?_ (fun b o z=>z) (fun h' u tk hk=>fin _ _ _ (I1.kept hk) hsz) (by rw [zq3];omega)
  ·rw [PyData.hasDict,fX] at z;cases z
  ·rw [PyData.depth,gC];omega⟩
theorem AZ{K:W.Frag}{te:TE}{σ:St}{H:Hp}{Q:VK}:tFs K te σ H Q=te σ H fun x H1=>((∃s,x=.str s/\shW s)\/∃(a:Addr)(ts:List Str),x=.ref a/\H1 a=some (.lst (ts.map V.str))/\ts.length<=100/\∀t∈ts,shW t)/\∀t,Q (.str t) H1:=rfl
end
end L2
namespace L2
open PySem PySem.Spec PyProof.Rows
variable {H:Hp} {Q:VK}
section
variable {X:Cx}
def vp:V->List V->Hp->VK->Prop:=fun x vs H Q=>∃z y:Str,x=.str z/\vs=[.str y]/\Q (.int (Txt.find z y)) H
theorem uc:MtR X "str.find" vp:=by intro pins s σ H x vs v us Q I rx rv h;obtain ⟨z,y,rfl,rfl,q⟩:=h;obtain ⟨t,rfl⟩:=rx;obtain ⟨u,rfl,ru⟩:=rv.one;obtain ⟨t2,rfl⟩:=ru;exact call_gives F.slot_str_find (typeIs_str _ _ _) F.entry_str_find (F.args_str_find_2 _ _) (gives_str_find z y t t2) (zAA (.int _) H (I.tok _) ⟨_,rfl⟩ q)
theorem xW{z y:Str}:vp (.str z) [.str y] H Q=Q (.int (Txt.find z y)) H:=propext ⟨by rintro ⟨_,_,e1,e2,q⟩;cases e1;cases e2;exact q,fun q=>zAA _ _ rfl rfl q⟩
def yY(xs ys:List V):Prop:=(∃a b c,xs=[a,b,c]/\ys=[c])\/∃a b c d e,xs=[a,b,c,d,e]/\ys=[c,e]
def se(K:W.Frag)(te tlo tst:TE):TE:=fun σ H Q=>te σ H fun x H1=>tlo σ H1 fun z H2=>tst σ H2 fun y H3=>∃a xs ys,x=.ref a/\z=.int 2/\y=.int 2/\SqL K H3 a xs/\yY xs ys/\∀l,H3 l=none->Q (.ref l) (upd H3 l (.lst ys))
theorem pv{e lo st:Expr}{te tlo tst:TE}{p2 pos:Pos}(he:XE X e te)(hlo:XE X lo tlo)(hst:XE X st tst):XE X (.Subscript e (.Slice (some lo) none (some st) p2) pos) (se X.K te tlo tst):=⟨by
 intro pins s σ H Q I h;refine Subscript_ (thn (he.h pins s σ H _ I h) fun v s1 hhx=>?_);obtain ⟨x,H1,I1,r1,q1⟩:=hhx;refine wpAny_Slice ?_;rw [evalPart_some];refine thn (hlo.h pins s1 σ H1 _ I1 q1) fun vl s2 hhx=>?_;obtain ⟨z,H2,I2,r2,q2⟩:=hhx;rw [evalPart_none];refine cu ?_;rw [evalPart_some];refine thn (hst.h pins s2 σ H2 _ I2 q2) fun vs s3 hhx=>?_;obtain ⟨y,H3,I3,r3,a,xs,ys,ex,ez,ey,hx,h2,q⟩:=hhx;subst ex ey ez
 cases r1
 obtain ⟨tl,rfl⟩:∃tl,vl=.int 2 tl:=r2;obtain ⟨tk,rfl⟩:∃tk,vs=.int 2 tk:=r3;have I4:Inv X pins σ H3 {s3 with heap:=s3.heap.push {cls:=.type "slice",data:=.fields #[.int 2 tl,.none,.int 2 tk]}}:=I3.kept (t':=s3.toks) fun b ob q=>cz _ q;obtain ⟨its,r,ht,hz⟩:=I4.list hx;have hlen:=r.length;show wpAny (model X.prog X.w) X.A (subscriptTail e (.Slice (some lo) none (some st) p2) (.ref a) (.ref s3.heap.objs.size)) (EP X pins σ Q) X.xe {s3 with heap:=s3.heap.push {cls:=.type "slice",data:=.fields #[.int 2 tl,.none,.int 2 tk]}};refine tail_any (ops:=[.ref a,.ref s3.heap.objs.size]) ht.isList.typeIs slot_list_getitem.lookup ?_ (by with_unfolding_all rfl);refine wpAny_getItem_list_slice ht.isList (Heap.IsSliceOf.new ..) (.int 2 tl) .none (.int 2 tk) Jo ?_ (by rw [List.size_toArray]<;>omega);have key:∃us,Vals ys us/\slicePick its.toArray (some 2) none (some 2)=us.toArray/\ys.length<=2:=by
  rcases h2 with ⟨x0,x1,x2,rfl,rfl⟩ | ⟨x0,x1,x2,x3,x4,rfl,rfl⟩
  ·cases r with
   |cons p0 r=>cases r with
    |cons p1 r=>cases r with
     |cons p2 r=>cases r;exact zAD _ (.cons p2 .nil) Jl Jo
  ·cases r with
   |cons p0 r=>cases r with
    |cons p1 r=>cases r with
     |cons p2 r=>cases r with
      |cons p3 r=>cases r with
       |cons p4 r=>cases r;exact zAD _ (.cons p2 (.cons p4 .nil)) Jl Jo
 obtain ⟨us,ru,eu,hl⟩:=key;rw [eu];refine zAA (.ref (s3.heap.push {cls:=.type "slice",data:=.fields #[.int 2 tl,.none,.int 2 tk]}).objs.size) _ (I4.laid (t':=s3.toks) (o:=.lst ys) (fun b ob q=>cz _ q) (zq9 _) ?_) rfl (q _ (I4.hok.fresh (zq9 _)));exact ⟨by rw [zq3];omega,zAE _ 0 ru (er _ rfl)⟩⟩
theorem uN{K:W.Frag}{te tlo tst:TE}{σ:St}:se K te tlo tst σ H Q=te σ H fun x H1=>tlo σ H1 fun z H2=>tst σ H2 fun y H3=>∃a xs ys,x=.ref a/\z=.int 2/\y=.int 2/\SqL K H3 a xs/\yY xs ys/\∀l,H3 l=none->Q (.ref l) (upd H3 l (.lst ys)):=rfl
theorem g7:bootBuiltins "ValueError"=some (.type "ValueError"):=by decide +kernel
def rn(K:W.Frag):List V->Hp->VK->Prop:=fun xs H Q=>∃(a D:Addr)(b:Bool),xs=[.ref a,.ty "ValueError"]/\H a=some (eL a (.ref D))/\IsX K D/\W.kitOne K (.ref D) (.type "ValueError")=some b/\Q (.bl b) H
theorem kR:cv X (.builtin "isinstance") (rn X.K):=by
 intro pins s σ H xs us Q I r h;obtain ⟨a,D,b,rfl,ha,hD,hc,q⟩:=h;obtain ⟨u,v,rfl,ru,rv⟩:=sr r
 cases ru
 cases rv
 exact W.kia_one (jV hD) I.kIn (zl I ha) hc (fun e=>by cases e) fun tk=>zAA (.bl b) H (I.tok _) rfl q
theorem uH{K:W.Frag}{a:Addr}:rn K [.ref a,.ty "ValueError"] H Q=∃(D:Addr)(b:Bool),H a=some (eL a (.ref D))/\IsX K D/\W.kitOne K (.ref D) (.type "ValueError")=some b/\Q (.bl b) H:=propext ⟨by rintro ⟨_,D,b,e,q⟩;cases e;exact zAJ D b q,fun ⟨D,b,q⟩=>zAI _ D b rfl q⟩
end
end L2
namespace J3
open PySem L2 FA FB FS FP GT PyProof.Rows
section
variable {R:Str->Prop} {ns:List Str} {w:Int} {al:Bool}
def kwL:List Str:=["tell","=","if","else","end","while","plus","less","and","or","xor","below","same","width","in","box"]
theorem xy:∀k∈FB.opsL,k∈kwL:=by decide +kernel
theorem wV(hk:∀k∈kwL,R k)(hn:∀n∈ns,R n)(ho:∀o,Opd.good ns w o->R (otx o)){d:Deed}(h:Deed.good ns w d):∀t∈dT d,R t:=by
 cases d with
 |tell o=>simp only [dT,List.mem_cons,List.not_mem_nil,or_false];rintro t (rfl | rfl)<;>first | exact ho o h | exact hk _ (by simp [kwL])
 |copy n o=>simp only [dT,List.mem_cons,List.not_mem_nil,or_false];rintro t (rfl | rfl | rfl)<;>first | exact hn _ h.1 | exact ho o h.2 | exact hk _ (by simp [kwL])
 |op k n o p=>simp only [dT,List.mem_cons,List.not_mem_nil,or_false];rintro t (rfl | rfl | rfl | rfl | rfl)<;>first | exact hn _ h.2.1 | exact ho o h.2.2.1 | exact hk _ (xy _ h.1) | exact ho p h.2.2.2 | exact hk _ (by simp [kwL])
mutual
theorem yy(hk:∀k∈kwL,R k)(hn:∀n∈ns,R n)(ho:∀o,Opd.good ns w o->R (otx o)):∀{s:Stm},s.good ns w->∀ts∈sT al s,∀t∈ts,R t
 | .deed d,h,ts,ht=>by
  rw [sT] at ht;rw [zq15.mp ht];exact wV hk hn ho (by rw [Stm.good] at h;exact h)
 | .ifs n a b,h,ts,ht=>by
  rw [Stm.good] at h;rw [sT] at ht;rcases zq4.mp ht with rfl | ht
  ·simp only [List.mem_cons,List.not_mem_nil,or_false];rintro t (rfl | rfl)<;>first | exact hn _ h.1 | exact hk _ (by simp [kwL])
  rcases zq10.mp ht with ht | ht
  ·exact gH hk hn ho h.2.1 ts ht
  rcases zq10.mp ht with ht | ht
  ·split at ht
   ·rcases zq4.mp ht with rfl | ht
    ·simp only [List.mem_cons,List.not_mem_nil,or_false];rintro t rfl;exact hk _ (by simp [kwL])
    ·exact gH hk hn ho h.2.2 ts ht
   ·cases ht
  ·rw [zq15.mp ht];simp only [List.mem_cons,List.not_mem_nil,or_false];rintro t rfl;exact hk _ (by simp [kwL])
 | .whl n a,h,ts,ht=>by
  rw [Stm.good] at h;rw [sT] at ht;rcases zq4.mp ht with rfl | ht
  ·simp only [List.mem_cons,List.not_mem_nil,or_false];rintro t (rfl | rfl)<;>first | exact hn _ h.1 | exact hk _ (by simp [kwL])
  rcases zq10.mp ht with ht | ht
  ·exact gH hk hn ho h.2 ts ht
  ·rw [zq15.mp ht];simp only [List.mem_cons,List.not_mem_nil,or_false];rintro t rfl;exact hk _ (by simp [kwL])
theorem gH(hk:∀k∈kwL,R k)(hn:∀n∈ns,R n)(ho:∀o,Opd.good ns w o->R (otx o)):∀{ss:List Stm},c5 ns w ss->∀ts∈lT al ss,∀t∈ts,R t
 | [],_,ts,ht=>by rw [lT] at ht;cases ht
 |s::r,h,ts,ht=>by
  rw [c5] at h;rw [lT] at ht;rcases zq10.mp ht with ht | ht
  ·exact yy hk hn ho h.1 ts ht
  ·exact gH hk hn ho h.2 ts ht
end
theorem wX(hk:∀k∈kwL,R k){ins oth:List Str}(hn:∀n∈ins++oth,R n)(hw:R (toString w)):∀ts∈hT w ins oth,∀t∈ts,R t:=by
 intro ts ht;unfold hT at ht;rcases zq4.mp ht with rfl | ht
 ·simp only [List.mem_cons,List.not_mem_nil,or_false];rintro t (rfl | rfl)<;>first | exact hw | exact hk _ (by simp [kwL])
 rcases zq10.mp ht with ht | ht
 ·obtain ⟨n,hm,rfl⟩:=zq37.mp ht;simp only [List.mem_cons,List.not_mem_nil,or_false];rintro t (rfl | rfl)<;>first | exact hn _ (jx _ hm) | exact hk _ (by simp [kwL])
 ·obtain ⟨n,hm,rfl⟩:=zq37.mp ht;simp only [List.mem_cons,List.not_mem_nil,or_false];rintro t (rfl | rfl)<;>first | exact hn _ (d8 _ hm) | exact hk _ (by simp [kwL])
end
def oH(t:Str):Bool:=fZ t&&decide (32∉t.cps.toList)&&decide (t.length<=20)&&(! c7 t || decide (t.length<=3))
theorem eO{t:Str}(h:oH t=true):okX t:=by unfold oH at h;simp only [Bool.and_eq_true,decide_eq_true_eq,Bool.or_eq_true,Bool.not_eq_true'] at h;exact zAG h.1.1.1 h.1.1.2 h.1.2 (fun z=>h.2.resolve_left (by rw [z];decide))
theorem dO{n:Str}(h:aX n=true):okX n:=zAG (bg h).1 (bg h).2.1 (bg h).2.2 (fun z=>by rw [ka h] at z;cases z)
theorem uf:∀i:Nat,i<257->oH (toString (i:Int))=true:=by decide +kernel
theorem je{i:Int}(h0:0<=i)(h1:i<=256):okX (toString i):=by obtain ⟨n,rfl⟩:=i4 h0;exact eO (uf n Jn)
theorem qK:∀k∈kwL,okX k:=fun k hk=>eO (by
 have:∀k∈kwL,oH k=true:=by decide +kernel
 exact this k hk)
theorem uh{ns:List Str}{w:Int}(hN:NW ns w){o:Opd}(h:Opd.good ns w o):okX (otx o):=by
 cases o with
 |box n=>exact dO (hN.1 n h)
 |word i=>
  have p:(2:Int) ^ w.toNat<=2 ^ 8:=by
   have:=hN.2.2
   exact_mod_cast mi Jm Jn
  exact je h.1 (by have:=h.2;omega)
theorem xf{ns:List Str}{w:Int}{al:Bool}(hN:NW ns w){ss:List Stm}(h:c5 ns w ss):∀ts∈lT al ss,okT ts:=fun ts ht=>
 have z:=jW hN.1 hN.2.2 h ts ht
 (zAB z.1 (by have:=z.2.1;omega) (gH qK (fun n hn=>dO (hN.1 n hn)) (fun o ho=>uh hN ho) h ts ht))
theorem wY{ins oth:List Str}{w:Int}(hN:NW (ins++oth) w):∀ts∈hT w ins oth,okT ts:=fun ts ht=>
 have z:=zq hN.2.1 hN.2.2 hN.1 ts ht
 (zAB z.1 (by have:=z.2.1;omega) (wX qK (fun n hn=>dO (hN.1 n hn)) (je hN.2.1 (by have:=hN.2.2;omega)) ts ht))
def oG(ts:List Str):Bool:=decide (ts≠[])&&decide (ts.length<=9)&&ts.all oH
theorem qJ{ts:List Str}(h:oG ts=true):okT ts:=by unfold oG at h;simp only [Bool.and_eq_true,decide_eq_true_eq,List.all_eq_true] at h;exact zAB h.1.1 h.1.2 fun t ht=>eO (h.2 t ht)
theorem aP{x:Str}(ts:List Str)(h:oG ts=true)(e:jn ts=x):OkL x:=zn ts e.symm (qJ h)
theorem dk{l n:Str}(k:Str)(hk:oH k=true)(e:k++" "=l) (hn:okX n):OkL (l++n):=⟨[k,n],by rw [mT e],Jo,Jo,fun t ht=>by
 rcases zq4.mp ht with rfl | ht
 ·exact eO hk
 ·rw [zq15.mp ht];exact hn⟩
theorem d6{n x:Str}(t:Str)(ts:List Str)(h:oG (t::ts)=true)(hl:ts.length<=7)(e:(" ":Str)++jn (t::ts)=x) (hn:okX n):OkL (n++x):=by
 refine zAF (n::t::ts) ?_ Jo (by simp;omega) fun u hu=>?_
 ·rw [<- e,<- cQ];rfl
 ·rcases zq4.mp hu with rfl | hu
  ·exact hn
  ·exact (qJ h).2.2 u hu
theorem qN{n g:Str}(hn:okX n)(hg:okX g):OkL ((n++" = ")++g):=⟨[n,"=",g],(mS n g).symm,Jo,Jo,fun t ht=>by
 simp only [List.mem_cons,List.not_mem_nil,or_false] at ht;rcases ht with rfl | rfl | rfl
 ·exact hn
 ·exact eO Jk
 ·exact hg⟩
theorem pO:∀{L:List Str},(∀x∈L,OkL x)->∃tss:List (List Str),L=tss.map jn/\∀ts∈tss,okT ts
 | [],_=>zn ([]) rfl (fun ts ht=>by cases ht)
 |x::L,h=>by
  obtain ⟨ts,rfl,h1⟩:=h x (bV ..);obtain ⟨tss,rfl,h2⟩:=pO fun y hy=>h y (bH _ hy);exact ⟨ts::tss,rfl,fun u hu=>by
   rcases zq4.mp hu with rfl | hu
   ·exact h1
   ·exact h2 u hu⟩
theorem qm:∀c,c<128->Txt.find "0123456789" ⟨#[c]⟩=if 48<=c/\c<=57 then ((c-48:Nat):Int) else -1:=by decide +kernel
end J3
local macro_rules | `(tactic| simp_arith [$ts,*])=>`(tactic| simp only [L2.Bl,L2.B0,L2.Bm,L2.B1,L2.Bn,L2.B3,L2.Bo,L2.B4,L2.Bp,L2.B5,L2.Bq,L2.B6,L2.Br,L2.B7,L2.Bs,L2.B8,L2.Bt,L2.B9,L2.Bu,L2.Ba,L2.AH,L2.A5,L2.AI,L2.A6,L2.AJ,L2.A7,L2.AK,L2.A8,L2.r_c,L2.Be,L2.Bh,L2.Bj,L2.y_I,L2.y_U,L2.A1,L2.A2,L2.Ag,L2.Ah,L2.xV,L2.uB,L2.yw,L2.r_B,L2.zT,L2.Bf,L2.Aj,L2.xJ,L2.Ak,L2.Bb,L2.yq,L2.rH,L2.zY,L2.xQ,L2.Am,L2.vw,L2.zU,L2.AW,L2.Ai,L2.xP,L2.xO,L2.Aq,L2.Af,L2.Bg,L2.rC,L2.yr,L2.xX,L2.uC,L2.Aa,L2.Bd,L2.Bc,L2.yd,L2.ye,L2.yf,L2.yg,L2.yh,L2.yi,L2.yj,L2.yk,L2.ym,L2.A4,L2.uD,L2.uE,L2.uF,L2.xR,L2.xS,L2.A3,L2.AY,L2.zX,L2.Ae,L2.Ac,L2.vx,L2.A0,L2.Ao,L2.rp,L2.Al,L2.xU,L2.xT,L2.yb,L2.xZ,true_and,and_true,forall_const,Int.reduceLT,L2.uA,L2.oS,L2.Ar,L2.A9,L2.rD,L2.wU,L2.z3,L2.zh,L2.xM,L2.xN,List.map_cons,List.map_nil,List.getElem?_cons_zero,List.getElem?_cons_succ,Option.join_some,L2.AX,L2.uO,L2.xY,List.set_cons_zero,List.set_cons_succ,L2.rA,L2.yv,L2.y7,L2.yp,L2.yo,L2.zR,L2.xW,L2.AZ,L2.y8,L2.yc,L2.uG,L2.uH,L2.yn,L2.uL,L2.yu,L2.uN,L2.Ap,$ts,*])
local macro_rules | `(tactic| rwa [$[$ts:term],*]) => `(tactic| simp_arith [$[$ts:term],*])
local macro_rules | `(∅) => `(by first | exact ⟨rfl,rfl,rfl,Jk,rfl,Jk,Jk⟩ | (intro vs H Q E h; first | (obtain ⟨h,_⟩ := h; cases h; rfl) | (obtain ⟨_,h,_⟩ := h; cases h; rfl) | (obtain ⟨_,_,h,_⟩ := h; cases h; rfl) | (obtain ⟨_,_,_,h,_⟩ := h; cases h; rfl) | (obtain ⟨_,_,_,_,h,_⟩ := h; cases h; rfl) | (obtain ⟨_,_,_,_,_,h,_⟩ := h; cases h; rfl)))
namespace K03
open PySem L2 PyProof.Rows FA FB FS FP GT
def top(i:Nat):Stmt:=PySem.Challenge.pw_deedloom_k03_lines_that_write_none.main.body.getD i (.Pass ⟨0,0,0,0⟩)
abbrev vz:Stmt:=bW (top 5) 0
theorem yz:aG ["self","width","ins","boxes","rows"] ["self","width","ins","boxes","rows"] (az vz):=∅
abbrev vA:Stmt:=top 6
theorem yA:aG ["rows"] ["rows"] (az vA):=∅
abbrev vB:Stmt:=top 7
theorem yB:aG ["row"] ["row"] (az vB):=∅
abbrev vC:Stmt:=top 8
theorem sc_103:aG ["width","many","bit"] ["width"] (az vC):=∅
abbrev vD:Stmt:=top 18
theorem sc_104:aG ["lines","parted","width","ins","others","names","rows"] ["lines"] (az vD):=∅
abbrev vE:Stmt:=top 19
theorem sc_105:aG ["parted","text"] ["parted"] (az vE):=∅
abbrev vF:Stmt:=top 20
theorem sc_106:aG ["word","parted","start","names","words"] ["word","parted","start"] (az vF):=∅
abbrev vG:Stmt:=top 21
theorem yC:aG ["ins","names"] ["ins","names"] (az vG):=∅
abbrev vH:Stmt:=top 22
theorem yD:aG ["word"] ["word"] (az vH):=∅
abbrev vI:Stmt:=top 23
theorem yE:aG ["word"] ["word"] (az vI):=∅
abbrev vJ:Stmt:=bW (top 24) 0
theorem yF:aG ["self","parted","width","names"] ["self","parted","width","names"] (az vJ):=∅
abbrev vK:Stmt:=bW (top 24) 1
theorem sc_111:aG ["self","rows"] ["self"] (az vK):=∅
abbrev vL:Stmt:=bW (top 24) 2
theorem yG:aG ["self"] ["self"] (az vL):=∅
abbrev vM:Stmt:=bW (top 24) 3
theorem sc_113:aG ["self","depth","rows"] ["self","depth"] (az vM):=∅
abbrev vN:Stmt:=bW (top 24) 4
theorem sc_114:aG ["self","depth","words"] ["self","depth"] (az vN):=∅
abbrev vO:Stmt:=bW (top 24) 5
theorem sc_115:aG ["self","words","name"] ["self","words"] (az vO):=∅
abbrev vP:Stmt:=bW (top 24) 6
theorem sc_116:aG ["self","name","depth","ones","others"] ["self","name","depth"] (az vP):=∅
abbrev vQ:Stmt:=bW (top 24) 7
theorem sc_117:aG ["self","name","depth","rows"] ["self","name","depth"] (az vQ):=∅
abbrev vR:Stmt:=bW (top 24) 8
theorem yH:aG ["self","depth"] ["self","depth"] (az vR):=∅
abbrev vS:Stmt:=bW (top 24) 9
theorem yJ:aG ["self"] ["self"] (az vS):=∅
abbrev vT:Stmt:=bW (top 24) 10
theorem yK:aG ["self","word"] ["self","word"] (az vT):=∅
abbrev vU:Stmt:=bW (top 24) 11
theorem yL:aG ["self","word"] ["self","word"] (az vU):=∅
abbrev vV:Stmt:=top 26
theorem sc_122:aG ["_law_cell","_law_k","_law_number_here"] ["_law_cell","_law_k"] (az vV):=∅
abbrev vW:Stmt:=top 27
theorem sc_123:aG ["_law_cell","_law_letters","_law_mixed_here","_law_size","_law_place","_law_names_here","_law_k","_law_name_here","_law_j","_law_at"] ["_law_cell"] (az vW):=∅
abbrev vX:Stmt:=top 28
theorem yM:aG ["_law_mixed_here","_law_names_here","_law_width"] ["_law_mixed_here","_law_names_here","_law_width"] (az vX):=∅
abbrev vY:Stmt:=top 29
theorem sc_125:aG ["_law_mixed_here","_law_names_here","_law_width","_law_one","_law_name_here","_law_op"] ["_law_mixed_here","_law_names_here","_law_width"] (az vY):=∅
abbrev vZ:Stmt:=top 30
theorem yN:aG ["_law_stack","_law_row"] ["_law_stack","_law_row"] (az vZ):=∅
abbrev w5:Stmt:=top 31
theorem sc_127:aG ["_law_stack","_law_kind","_law_rows","_law_name_here","_law_ones"] ["_law_stack"] (az w5):=∅
abbrev w6:Stmt:=top 32
theorem sc_128:aG ["_law_cells","_law_names_here","_law_width","_law_most","_law_stack","_law_many","_law_k","_law_cell","_law_mixed_here","_law_way","_law_kind","_law_rows","_law_name_here","_law_ones"] ["_law_cells","_law_names_here","_law_width","_law_most"] (az w6):=∅
abbrev w9:Stmt:=top 33
theorem sc_129:aG ["_law_rows","_law_lines_here","_law_row"] ["_law_rows"] (az w9):=∅
abbrev wa:Stmt:=top 34
theorem yO:aG ["_law_width","_law_ins","_law_others"] ["_law_width","_law_ins","_law_others"] (az wa):=∅
abbrev wb:Stmt:=top 35
theorem sc_131:aG ["_law_word","_law_most","_law_number_here","_law_sign","_law_at"] ["_law_word","_law_most"] (az wb):=∅
abbrev wc:Stmt:=top 36
theorem sc_132:aG ["_law_word","_law_sign"] ["_law_word"] (az wc):=∅
abbrev we:Stmt:=top 37
theorem sc_133:aG ["_law_lines_here","_law_word","_law_boxes","_law_at","_law_words"] ["_law_lines_here","_law_word","_law_boxes","_law_at"] (az we):=∅
abbrev wf:Stmt:=top 38
theorem sc_134:aG ["_law_words","_law_boxes","_law_most","_law_word"] ["_law_words","_law_boxes","_law_most"] (az wf):=∅
abbrev wg:Stmt:=top 39
theorem sc_135:aG ["_law_lines_here","_law_boxes","_law_most","_law_deep","_law_many","_law_line","_law_words"] ["_law_lines_here","_law_boxes","_law_most"] (az wg):=∅
abbrev wj:Stmt:=top 40
theorem sc_136:aG ["_law_lines_here","_law_words","_law_boxes","_law_at"] ["_law_lines_here"] (az wj):=∅
abbrev wk:Stmt:=top 41
theorem sc_137:aG ["_law_mixed_here","_law_names_here","_law_width","_law_name_here","_law_great","_law_some"] ["_law_mixed_here","_law_names_here","_law_width"] (az wk):=∅
abbrev wl:Stmt:=top 42
theorem sc_138:aG ["_law_lines_here","_law_mixed_here","_law_names_here","_law_width","_law_way","_law_at","_law_bad_here","_law_name_here","_law_many"] ["_law_lines_here","_law_mixed_here","_law_names_here","_law_width"] (az wl):=∅
abbrev wn:Stmt:=top 43
theorem sc_139:aG ["_law_rows","_law_many","_law_row"] ["_law_rows"] (az wn):=∅
abbrev wo:Stmt:=top 44
theorem sc_140:aG ["_law_lines_here","_law_found","_law_fault","_law_handed","e","_law_due"] ["_law_lines_here"] (az wo):=∅
abbrev wq:Stmt:=top 45
theorem sc_141:aG ["_law_script","_law_cells","_law_first","_law_width","_law_ins","_law_others","_law_rows","_law_lines_here","_law_k","_law_cell"] ["_law_script"] (az wq):=∅
set_option genInjectivity false in
structure Ad where
 k_LETTERS:Tok
 k_FIGURES:Tok
 k_LONGEST_NAME:Tok
 k_GREATEST_WIDTH:Tok
 k_MOST_INS:Tok
 k_MOST_BOXES:Tok
 k_MOST_STATEMENTS:Tok
 k_MOST_DEEP:Tok
 O_OPS:Addr
 C_Program:Addr
 C_RowReader:Addr
 X_LoomError:Addr
 X_NoProgram:Addr
 f_100:Addr
 e_100:FuncData
 f_101:Addr
 e_101:FuncData
 f_102:Addr
 e_102:FuncData
 f_103:Addr
 e_103:FuncData
 f_104:Addr
 e_104:FuncData
 f_105:Addr
 e_105:FuncData
 f_106:Addr
 e_106:FuncData
 f_107:Addr
 e_107:FuncData
 f_108:Addr
 e_108:FuncData
 f_109:Addr
 e_109:FuncData
 f_110:Addr
 e_110:FuncData
 f_111:Addr
 e_111:FuncData
 f_112:Addr
 e_112:FuncData
 f_113:Addr
 e_113:FuncData
 f_114:Addr
 e_114:FuncData
 f_115:Addr
 e_115:FuncData
 f_116:Addr
 e_116:FuncData
 f_117:Addr
 e_117:FuncData
 f_118:Addr
 e_118:FuncData
 f_119:Addr
 e_119:FuncData
 f_120:Addr
 e_120:FuncData
 f_121:Addr
 e_121:FuncData
 f_122:Addr
 e_122:FuncData
 f_123:Addr
 e_123:FuncData
 f_124:Addr
 e_124:FuncData
 f_125:Addr
 e_125:FuncData
 f_126:Addr
 e_126:FuncData
 f_127:Addr
 e_127:FuncData
 f_128:Addr
 e_128:FuncData
 f_129:Addr
 e_129:FuncData
 f_130:Addr
 e_130:FuncData
 f_131:Addr
 e_131:FuncData
 f_132:Addr
 e_132:FuncData
 f_133:Addr
 e_133:FuncData
 f_134:Addr
 e_134:FuncData
 f_135:Addr
 e_135:FuncData
 f_136:Addr
 e_136:FuncData
 f_137:Addr
 e_137:FuncData
 f_138:Addr
 e_138:FuncData
 f_139:Addr
 e_139:FuncData
 f_140:Addr
 e_140:FuncData
 f_141:Addr
 e_141:FuncData
structure Txt(K:W.Frag)(mg:Str->Option Value)(t:Ad):Prop where
 g_LETTERS:mg "LETTERS"=some (.str "abcdefghijklmnopqrstuvwxyz" t.k_LETTERS)
 g_FIGURES:mg "FIGURES"=some (.str "0123456789" t.k_FIGURES)
 g_LONGEST_NAME:mg "LONGEST_NAME"=some (.int 6 t.k_LONGEST_NAME)
 g_GREATEST_WIDTH:mg "GREATEST_WIDTH"=some (.int 8 t.k_GREATEST_WIDTH)
 g_MOST_INS:mg "MOST_INS"=some (.int 4 t.k_MOST_INS)
 g_MOST_BOXES:mg "MOST_BOXES"=some (.int 8 t.k_MOST_BOXES)
 g_MOST_STATEMENTS:mg "MOST_STATEMENTS"=some (.int 40 t.k_MOST_STATEMENTS)
 g_MOST_DEEP:mg "MOST_DEEP"=some (.int 8 t.k_MOST_DEEP)
 g_OPS:mg "OPS"=some (.ref t.O_OPS)
 o_OPS:TupK K t.O_OPS [.str "plus",.str "less",.str "and",.str "or",.str "xor",.str "below",.str "same"]
 c_Program:KlsAt K mg "Program" t.C_Program
 n_Program_width:NoAttr K t.C_Program "width"
 n_Program_ins:NoAttr K t.C_Program "ins"
 n_Program_boxes:NoAttr K t.C_Program "boxes"
 n_Program_rows:NoAttr K t.C_Program "rows"
 c_RowReader:KlsAt K mg "RowReader" t.C_RowReader
 n_RowReader_parted:NoAttr K t.C_RowReader "parted"
 n_RowReader_words_many:NoAttr K t.C_RowReader "words_many"
 n_RowReader_names:NoAttr K t.C_RowReader "names"
 n_RowReader_place:NoAttr K t.C_RowReader "place"
 n_RowReader_statements_many:NoAttr K t.C_RowReader "statements_many"
 x_LoomError:mg "LoomError"=some (.ref t.X_LoomError)
 x_NoProgram:mg "NoProgram"=some (.ref t.X_NoProgram)
 q_NoProgram:W.excIn K t.X_NoProgram bmV "ValueError.__new__"=true
 i_NoProgram:IsX K t.X_NoProgram
 m_NoProgram_NoProgram:W.exmOne K (.ref t.X_NoProgram) (.ref t.X_NoProgram)=some true
 i_NoProgram_LoomError:W.kitOne K (.ref t.X_NoProgram) (.ref t.X_LoomError)=some true
 i_NoProgram_ValueError:W.kitOne K (.ref t.X_NoProgram) (.type "ValueError")=some true
 d_100:bv K t.C_Program "__init__" "Program.__init__" vz ["self","width","ins","boxes","rows"] t.f_100 t.e_100
 d_101:bf K mg "copied" vA ["rows"] t.f_101 t.e_101
 d_102:bf K mg "copied_row" vB ["row"] t.f_102 t.e_102
 d_103:bf K mg "word_count" vC ["width"] t.f_103 t.e_103
 d_104:bf K mg "read" vD ["lines"] t.f_104 t.e_104
 d_105:bf K mg "read_width" vE ["parted"] t.f_105 t.e_105
 d_106:bf K mg "names_behind" vF ["word","parted","start"] t.f_106 t.e_106
 d_107:bf K mg "judge_names" vG ["ins","names"] t.f_107 t.e_107
 d_108:bf K mg "is_name" vH ["word"] t.f_108 t.e_108
 d_109:bf K mg "is_number" vI ["word"] t.f_109 t.e_109
 d_110:bv K t.C_RowReader "__init__" "RowReader.__init__" vJ ["self","parted","width","names"] t.f_110 t.e_110
 d_111:bv K t.C_RowReader "all_rows" "RowReader.all_rows" vK ["self"] t.f_111 t.e_111
 d_112:bv K t.C_RowReader "line_ahead" "RowReader.line_ahead" vL ["self"] t.f_112 t.e_112
 d_113:bv K t.C_RowReader "rows_within" "RowReader.rows_within" vM ["self","depth"] t.f_113 t.e_113
 d_114:bv K t.C_RowReader "next_row" "RowReader.next_row" vN ["self","depth"] t.f_114 t.e_114
 d_115:bv K t.C_RowReader "assignment" "RowReader.assignment" vO ["self","words"] t.f_115 t.e_115
 d_116:bv K t.C_RowReader "if_row" "RowReader.if_row" vP ["self","name","depth"] t.f_116 t.e_116
 d_117:bv K t.C_RowReader "while_row" "RowReader.while_row" vQ ["self","name","depth"] t.f_117 t.e_117
 d_118:bv K t.C_RowReader "deeper_rows" "RowReader.deeper_rows" vR ["self","depth"] t.f_118 t.e_118
 d_119:bv K t.C_RowReader "pass_end" "RowReader.pass_end" vS ["self"] t.f_119 t.e_119
 d_120:bv K t.C_RowReader "operand" "RowReader.operand" vT ["self","word"] t.f_120 t.e_120
 d_121:bv K t.C_RowReader "box_name" "RowReader.box_name" vU ["self","word"] t.f_121 t.e_121
 d_122:bf K mg "_law_mixed" vV ["_law_cell","_law_k"] t.f_122 t.e_122
 d_123:bf K mg "_law_names" vW ["_law_cell"] t.f_123 t.e_123
 d_124:bf K mg "_law_operand" vX ["_law_mixed_here","_law_names_here","_law_width"] t.f_124 t.e_124
 d_125:bf K mg "_law_deed" vY ["_law_mixed_here","_law_names_here","_law_width"] t.f_125 t.e_125
 d_126:bf K mg "_law_into" vZ ["_law_stack","_law_row"] t.f_126 t.e_126
 d_127:bf K mg "_law_closed" w5 ["_law_stack"] t.f_127 t.e_127
 d_128:bf K mg "_law_program" w6 ["_law_cells","_law_names_here","_law_width","_law_most"] t.f_128 t.e_128
 d_129:bf K mg "_law_lines" w9 ["_law_rows"] t.f_129 t.e_129
 d_130:bf K mg "_law_head" wa ["_law_width","_law_ins","_law_others"] t.f_130 t.e_130
 d_131:bf K mg "_law_number" wb ["_law_word","_law_most"] t.f_131 t.e_131
 d_132:bf K mg "_law_name" wc ["_law_word"] t.f_132 t.e_132
 d_133:bf K mg "_law_heads" we ["_law_lines_here","_law_word","_law_boxes","_law_at"] t.f_133 t.e_133
 d_134:bf K mg "_law_assigns" wf ["_law_words","_law_boxes","_law_most"] t.f_134 t.e_134
 d_135:bf K mg "_law_body" wg ["_law_lines_here","_law_boxes","_law_most"] t.f_135 t.e_135
 d_136:bf K mg "_law_statements" wj ["_law_lines_here"] t.f_136 t.e_136
 d_137:bf K mg "_law_bad" wk ["_law_mixed_here","_law_names_here","_law_width"] t.f_137 t.e_137
 d_138:bf K mg "_law_spoilt" wl ["_law_lines_here","_law_mixed_here","_law_names_here","_law_width"] t.f_138 t.e_138
 d_139:bf K mg "_law_counted" wn ["_law_rows"] t.f_139 t.e_139
 d_140:bf K mg "_law_asked" wo ["_law_lines_here"] t.f_140 t.e_140
 d_141:bf K mg "law" wq ["_law_script"] t.f_141 t.e_141
 z_range:mg "range"=none
 z_isinstance:mg "isinstance"=none
 z_int:mg "int"=none
 z_enumerate:mg "enumerate"=none
 z_len:mg "len"=none
 z_str:mg "str"=none
 z_list:mg "list"=none
 z_all:mg "all"=none
 z_set:mg "set"=none
 z_ValueError:mg "ValueError"=none
theorem yX{K:W.Frag}{O:Addr}{t0 t1 t2 t3 t4 t5 t6:Tok}{ep:Nat}{dd:Option Addr}{sl:Array (Option Value)}(l:K.lookup O=some ⟨.type "tuple",dd,.seq #[.str "plus" t0,.str "less" t1,.str "and" t2,.str "or" t3,.str "xor" t4,.str "below" t5,.str "same" t6] ep,sl⟩):TupK K O [.str "plus",.str "less",.str "and",.str "or",.str "xor",.str "below",.str "same"]:=TupK.mk l rfl rfl (show 7<=sizeLine by rw [zq3];decide) (.cons ⟨_,rfl⟩ (.cons ⟨_,rfl⟩ (.cons ⟨_,rfl⟩ (.cons ⟨_,rfl⟩ (.cons ⟨_,rfl⟩ (.cons ⟨_,rfl⟩ (.cons ⟨_,rfl⟩ (.nil))))))))
variable {H:Hp} {u:TS}
def du(u:TS)(D:cG):L2.St->Hp->Prop:=u D
theorem ap{D:cG}{σ:L2.St}(h:u D σ H):du u D σ H:=h
theorem rJ{t:TS}{D:cG}{σ:L2.St}:yS t u D σ H=t {D with nx:=du u D} σ H:=rfl
theorem rB{t:TS}{D:cG}{σ:L2.St}:yR t u D σ H=∃Mid:L2.St->Hp->Prop,t {D with nx:=Mid} σ H/\∀σ' H',Mid σ' H'->du u D σ' H':=rfl
theorem y9{c:TT}{t:TS}{D:cG}{σ:L2.St}:yQ c t u D σ H=c σ H fun b H1=>if b=true then du t D σ H1 else du u D σ H1:=rfl
end K03
local macro_rules | `(tactic| simp_arith! [$ts,*])=>`(tactic| simp_arith [-L2.rH,-L2.rA,K03.rJ,K03.rB,$ts,*])
local macro_rules | `(tactic| simp_arith only [$ts,*])=>`(tactic| simp_arith [-L2.rH,-L2.vw,-L2.rA,K03.rJ,K03.y9,K03.rB,$ts,*])
namespace K03
open PySem L2 PyProof.Rows FA FB FS FP GT
def sp_law(K:W.Frag):Sp:=fun vs H Q _=>∃(a:Addr)(ns:List Int),vs=[.ref a]/\SqL K H a (ns.map V.int)/\ns.length<=63/\(∀z∈ns,Builtin.Int.intBits z<=2 ^ 20)/\∀H',Q (.bl true) H'
def kB:Sp:=fun vs H Q _=>∃c k:Int,vs=[.int c,.int k]/\Builtin.Int.intBits c<=2 ^ 20/\0<=k/\k<=1000/\Q (.int (cJ c k)) H
theorem dq{c k:Int}{H:Hp}{Q:VK}{E:XK}:kB [.int c,.int k] H Q E=(Builtin.Int.intBits c<=2 ^ 20/\0<=k/\k<=1000/\Q (.int (cJ c k)) H):=propext ⟨by rintro ⟨_,_,e,q⟩;cases e;exact q,by intro q;exact zAE c k rfl q⟩
section
variable {P:Program} {w:World} {K:W.Frag} {mg:Str->Option Value} {base:Heap} {t:Ad}
theorem gQ(T:Txt K mg t):FnOk P w K mg base CX0 1 t.f_122 t.e_122 ["_law_cell","_law_k"] kB:=by
 refine T.d_122.F.ok sc_122 ∅ ?_;rintro cdv A outer s H vs Q E hr ⟨c,k,rfl,hb,k0,k1,q⟩;refine ⟨_,
   (XSs.h
   (ai
    (aD (am md (yqv 0 vl) (ak nN ac ac) (au _))
     (aj
      (av (ak aN (ak aM (ak jw (yqv 0 vl) (ak nN ac ac)) (ak fz ac (ak cP ac (ak aN (yqv 1 vl) ac)))) (ak fz ac ac))))
     ay)
   (ai
    (ar (i:=2) sc_122.nd rfl ll (ak aN (ak cP (ak aL (ak aL (ak aL (ak sD (yqv 0 vl) (yqv 0 vl)) (ak cP ac (yqv 0 vl))) (ak cP ac (yqv 1 vl))) ac) ac) ac))
   (aj
    (av (ak aN (ak aL (ak cP (yqv 2 vl) (yqv 2 vl)) ac) ac)))))),?_⟩
 rw [show start _ [V.int c,V.int k]=[some (.int c),some (.int k),none] from rfl];rwa [];unfold cJ at q;have cp:pI 10 40:=zAB Jm Jm Jm
 refine ⟨cp,aO (fun e=>?_) (fun e=>?_)⟩
 ·rw [zq1 e] at q;have m0:0<=k % 60:=cB _ Jm;have m1:k % 60<60:=d4 _ Jm;refine zAV cp (.inl ⟨Jm,Jm⟩) (zAB Jn Jn Jm) (CDivB.pow Jn) (zAB Jm Jm Jm) Jm q
 ·rw [zq0 e] at q;have n0:0<=(c * c+3 * c+7919 * k+1) * 48271 % 2147483629:=cB _ Jm;have n1:(c * c+3 * c+7919 * k+1) * 48271 % 2147483629<2147483629:=d4 _ Jm;refine zAP (ud hb) (.inl ⟨Jm,Jm⟩) (.inl ⟨Jm,Jm⟩) (.inr ⟨Jm,Jm⟩) (.inl ⟨Jn,Jn⟩) q
def kC:Sp:=fun vs H Q _=>∃c:Int,vs=[.int c]/\Builtin.Int.intBits c<=2 ^ 20/\∀p H',Same H H'->H p=none->H' p=some (.lst ((bw c).map V.str))->Q (.ref p) H'
theorem nz{c:Int}{H:Hp}{Q:VK}{E:XK}:kC [.int c] H Q E=(Builtin.Int.intBits c<=2 ^ 20/\∀p H',Same H H'->H p=none->H' p=some (.lst ((bw c).map V.str))->Q (.ref p) H'):=propext ⟨by rintro ⟨_,e,q⟩;cases e;exact q,by intro q;exact zn c rfl q⟩
theorem qT(T:Txt K mg t):FnOk P w K mg base CX0 2 t.f_123 t.e_123 ["_law_cell"] kC:=by
 have G_122:=@gQ P w K mg base t T;refine T.d_123.F.ok sc_123 ∅ ?_;rintro cdv A outer s H vs Q E hr ⟨c,rfl,hb,q⟩;refine ⟨_,
   (XSs.h
   (ai
    (ar (i:=1) sc_123.nd rfl ll ao)
   (ai
    (ar (i:=2) sc_123.nd rfl ll (aB T.d_122 G_122 hr.m (aa (yqv 0 vl) (aa ac af)) gl))
   (ai
    (ar (i:=3) sc_123.nd rfl ll (ak aL ac (ak aN (yqv 2 vl) ac)))
   (ai
    (ar (i:=4) sc_123.nd rfl ll (ak aN (ak aM (yqv 2 vl) ac) (yqv 3 vl)))
   (ai
    (ar (i:=5) sc_123.nd rfl ll (aH af))
   (ai
    (cc PassesOwn.never rfl (bT gl T.z_range (aa ac af)) (aK (i:=6) sc_123.nd rfl ll)
     (ai
      (ar (i:=7) sc_123.nd rfl ll ao)
     (ai
      (cc PassesOwn.never rfl (bT gl T.z_range (aa (yqv 3 vl) af)) (aK (i:=8) sc_123.nd rfl ll)
       (ai
        (ar (i:=9) sc_123.nd rfl ll (ak aL (ak aL (ak aM (yqv 2 vl) ac) (ak cP (yqv 8 vl) (yqv 8 vl))) (ak cP (aQ nV gl T.z_int boot_int (aa (cE aU (yqv 8 vl) (yqv 4 vl) (au _)) af)) (yqv 6 vl))))
       (aj
        (ar (i:=7) sc_123.nd rfl ll (ak aC (yqv 7 vl) (aw gG (yqv 1 vl) (ak aN (yqv 9 vl) ac)))))))
     (aj
      (aR (bS PySem.F.plainAttrs_list PySem.F.slot_list_append PySem.F.type_list_append bo (yqv 5 vl) (aa (yqv 7 vl) af)))))))
   (ai
    (aD (am aU (ak aN (ak aM (yqv 2 vl) ac) ac) ac (au _))
     (aj
      (ar (i:=5) sc_123.nd rfl ll (aH (bp Jp))))
     ay)
   (aj
    (av (yqv 5 vl))))))))))),?_⟩
 rw [show start _ [V.int c]=[some (.int c),none,none,none,none,none,none,none,none,none] from rfl];rwa [dq];refine zAG hb Jm Jm ?_;unfold bw at q;have m0:=gM c 3;generalize cJ c 3=m at m0 q ⊢;have z0:0<=m % 6:=cB _ Jm;have z1:m % 6<6:=d4 _ Jm;have l0:0<=m / 6 % (1+m % 6):=cB _ Jn;refine ⟨CDivB.small Jm Jm,Jn,fun p0 hp0=>⟨Jm,Jm,fD (fun i σ H'=>Same H H'/\H' p0=some (.lst ((nms m i).map V.str))/\∃o6 o7 o8 o9,σ=[some (.int c),some (.str "abcdefghijklmnopqrstuvwxyz"),some (.int m),some (.int (1+m % 6)),some (.int (m / 6 % (1+m % 6))),some (.ref p0),o6,o7,o8,o9])
  (zAB (Same.upd hp0) ae (zAN _ _ _ _ rfl)) ?_ ?_⟩⟩
 ·rintro i σ H' hi ⟨sm,hl,o6,o7,o8,o9,rfl⟩;rwa [];refine ⟨Jn,Jn,fD (fun j σ H2=>H2=H'/\∃o8 o9,σ=[some (.int c),some (.str "abcdefghijklmnopqrstuvwxyz"),some (.int m),some (.int (1+m % 6)),some (.int (m / 6 % (1+m % 6))),some (.ref p0),some (.int i),some (.str (nm m (m / 6 % (1+m % 6)) i j)),o8,o9])
   ⟨rfl,zAJ _ _ rfl⟩ ?_ ?_⟩
  ·rintro j σ H2 hj ⟨rfl,o8,o9,rfl⟩;rwa [];have hi8:i<8:=hi;have hb1:(if decide ((j:Int)=m / 6 % (1+m % 6))=true then (1:Int) else 0)=0\/(if decide ((j:Int)=m / 6 % (1+m % 6))=true then (1:Int) else 0)=1:=by
    split
    ·exact .inr rfl
    ·exact .inl rfl
   refine zAH (CDivB.small Jm Jm) (.inl ⟨Jn,by omega +splitNatSub⟩) (.inl ⟨Jn,Jn⟩) Jk (zAD _ (xg _) ?_ (zAJ _ _ rfl));rw [lC];show j+1<=sizeLine;rw [zq3];omega
  ·rintro σ H2 ⟨rfl,o8,o9,rfl⟩;rwa [];have hi8:i<8:=hi;refine ⟨.inl ⟨rfl,_,SqL.of hl⟩,zBC _ hl ?_ (fun b o e=>?_) ?_ (zAN _ _ _ _ rfl)⟩
   ·rw [zq2];unfold nms;rw [zq2,List.length_range,zq3];omega
   ·rw [aE (aA e hp0)];exact sm b o e
   ·rw [ae,qE,bI];rfl
 ·rintro σ H' ⟨sm,hl,o6,o7,o8,o9,rfl⟩;rwa [];refine ⟨CDivB.small Jm Jm,aO (fun e=>?_) (fun e=>?_)⟩
  ·rw [zq1 e] at q;intro p hp;exact q p _ (sm.trans (Same.upd hp)) (sm.free hp) ae
  ·rw [zq0 e] at q;exact q p0 H' sm hp0 hl
def kP(K:W.Frag)(m:Int)(w:Int)(a:Addr)(H:Hp)(Q:VK):Prop:=∃(ns:List Str),SqL K H a (ns.map V.str)/\0<=w/\w<=8/\Q (ji m ns w) H
def hU(K:W.Frag):Sp:=fun vs H Q _=>∃(m:Int)(w:Int)(a:Addr),vs=[.int m,.ref a,.int w]/\kP K m w a H Q
theorem lG(T:Txt K mg t):FnOk P w K mg base CX0 1 t.f_124 t.e_124 ["_law_mixed_here","_law_names_here","_law_width"] (hU K):=by
 refine T.d_124.F.ok yM ∅ ?_;rintro cdv A outer s H vs Q E hr ⟨m,w,a,rfl,ns,hS,w0,w8,q⟩;refine ⟨_,
   (XSs.h
   (ai
    (aD (aW (bc (am bG (ak aN (yqv 0 vl) ac) ac (au _)) (b9 (am bG (ax aq gl T.z_len PySem.boot_len (aa (yqv 1 vl) af)) ac (au _)))))
     (aj
      (av (aw aF (yqv 1 vl) (ak aN (ak aM (yqv 0 vl) ac) (ax aq gl T.z_len PySem.boot_len (aa (yqv 1 vl) af))))))
     ay)
   (aj
    (av (ak aN (ak aM (yqv 0 vl) ac) (ak fz ac (yqv 2 vl))))))),?_⟩
 rw [show start _ [V.int m,V.ref a,V.int w]=[some (.int m),some (.ref a),some (.int w)] from rfl];rwa [];unfold ji at q;have np:(0:Int)<1 * 2 ^ w.toNat:=by rw [jz];exact Int.pow_pos Jm
 refine aO (fun e=>?_) (fun e=>?_)
 ·refine zn _ (.inl hS) (aO (fun e2=>?_) (fun e2=>?_))
  ·rw [zq2] at e2;have hn:¬ns=[]:=fun z=>by rw [z] at e2;simp at e2
   rw [zq1 ⟨e,hn⟩] at q;refine ⟨CDivB.small Jm Jm,zAD _ (.inl hS) ?_ (zAA _ _ hS ?_ q)⟩
   ·rw [zq2];exact e2
   ·rw [zq2];exact jl hn
  ·rw [zq2] at e2;have hn:ns=[]:=zq116.mp Jn;rw [zq0 (fun z=>z.2 hn)] at q;exact zAG (CDivB.small Jm Jm) (zAB Jn Jn Jm) np q
 ·rw [zq0 (fun z=>e z.1)] at q;exact zAG (CDivB.small Jm Jm) (zAB Jn Jn Jm) np q
theorem oQ{m w:Int}{a:Addr}{H:Hp}{Q:VK}{E:XK}:hU K [.int m,.ref a,.int w] H Q E=∃ns,SqL K H a (ns.map V.str)/\0<=w/\w<=8/\Q (ji m ns w) H:=propext ⟨by rintro ⟨_,_,_,e,q⟩;cases e;exact q,fun q=>zAI _ _ _ rfl q⟩
def tO(K:W.Frag)(m:Int)(w:Int)(a:Addr)(H:Hp)(Q:VK):Prop:=∃(ns:List Str),SqL K H a (ns.map V.str)/\0<=w/\w<=8/\∀p H',Same H H'->H p=none->H' p=some (.tup (jS m ns w))->Q (.ref p) H'
def nB(K:W.Frag):Sp:=fun vs H Q _=>∃(m:Int)(w:Int)(a:Addr),vs=[.int m,.ref a,.int w]/\tO K m w a H Q
theorem uj(T:Txt K mg t):FnOk P w K mg base CX0 2 t.f_125 t.e_125 ["_law_mixed_here","_law_names_here","_law_width"] (nB K):=by
 have G_124:=@lG P w K mg base t T;refine T.d_125.F.ok sc_125 ∅ ?_;rintro cdv A outer s H vs Q E hr ⟨m,w,a,rfl,ns,hS,w0,w8,q⟩;refine ⟨_,
   (XSs.h
   (ai
    (ar (i:=3) sc_125.nd rfl ll (aB T.d_124 G_124 hr.m (aa (ak aM (yqv 0 vl) ac) (aa (yqv 1 vl) (aa (yqv 2 vl) af))) gl))
   (ai
    (aD (aW (bN (am aU (ak aN (yqv 0 vl) ac) ac (au _)) (c4 (am aU (ax aq gl T.z_len PySem.boot_len (aa (yqv 1 vl) af)) ac (au _)))))
     (aj
      (av (bb (aa ao (aa (yqv 3 vl) af)))))
     ay)
   (ai
    (ar (i:=4) sc_125.nd rfl ll (aw aF (yqv 1 vl) (ak aN (ak aM (yqv 0 vl) ac) (ax aq gl T.z_len PySem.boot_len (aa (yqv 1 vl) af)))))
   (ai
    (aD (am aU (ak aN (yqv 0 vl) ac) ac (au _))
     (aj
      (av (bb (aa ao (aa (yqv 4 vl) (aa (yqv 3 vl) af))))))
     ay)
   (ai
    (ar (i:=5) sc_125.nd rfl ll (aw aF (aH (bp Jp)) (ak jw (ak aN (yqv 0 vl) ac) ac)))
   (aj
    (av (bb (aa (yqv 5 vl) (aa (yqv 4 vl) (aa (yqv 3 vl) (aa (aB T.d_124 G_124 hr.m (aa (ak aM (yqv 0 vl) ac) (aa (yqv 1 vl) (aa (yqv 2 vl) af))) gl) af))))))))))))),?_⟩
 rw [show start _ [V.int m,V.ref a,V.int w]=[some (.int m),some (.ref a),some (.int w),none,none,none] from rfl];rwa [oQ];unfold jS at q;have n0:0<=m % 9:=cB _ Jm;have n1:m % 9<9:=d4 _ Jm;have cd:∀z,0<z->z<1073741824->CDivB m z:=fun z h1 h2=>CDivB.small h1 h2;refine ⟨cd _ Jm Jm,zAF ns hS w0 w8 (aO (fun e=>?_) (fun e=>?_))⟩
 ·rw [zq1 (.inl e)] at q;intro p hp;exact q p _ (Same.upd hp) hp ae
 ·refine zn _ (.inl hS) (aO (fun e2=>?_) (fun e2=>?_))
  ·rw [zq2] at e2;rw [zq1 (.inr (zq116.mp Jn))] at q;intro p hp;exact q p _ (Same.upd hp) hp ae
  ·rw [zq2] at e2;have hn:¬ns=[]:=fun z=>e2 (by rw [z];rfl);rw [zq0 (fun z=>z.elim e hn)] at q;refine ⟨cd _ Jm Jm,zAD _ (.inl hS) ?_ (zAA _ _ hS (by rw [zq2];exact jl hn) (aO (fun e3=>?_) (fun e3=>?_)))⟩
   ·rw [zq2];have:=zq59.mpr hn;omega
   ·rw [zq1 e3] at q;intro p hp;exact q p _ (Same.upd hp) hp ae
   ·rw [zq0 e3] at q;intro p hp;refine zAC _ _ (SqL.of ae) (xx Jn Jn) (cd _ Jm Jm) (zAF ns ((Same.upd hp).seq hS) w0 w8 fun p2 hp2=>?_);exact q p2 _ ((Same.upd hp).trans (Same.upd hp2)) ((Same.upd hp).free hp2) ae
theorem lR{m w:Int}{a:Addr}{H:Hp}{Q:VK}{E:XK}:nB K [.int m,.ref a,.int w] H Q E=∃ns,SqL K H a (ns.map V.str)/\0<=w/\w<=8/\∀p H',Same H H'->H p=none->H' p=some (.tup (jS m ns w))->Q (.ref p) H':=propext ⟨by rintro ⟨_,_,_,e,q⟩;cases e;exact q,fun q=>zAI _ _ _ rfl q⟩
def tP(K:W.Frag)(S:Addr)(y:V)(H:Hp)(Q:VK):Prop:=∃(H0:Hp)(xs:List V)(e:Ent)(es:List Ent)(f:List Addr)(g:List Addr)(r:Stm)(B:Nat),Same H0 H/\H S=some (.lst xs)/\StkV K H xs (e::es) f/\StmV K H y r g/\(S::(f++g)).Nodup/\(∀a∈S::(f++g),H0 a=none)/\
 (∀e'∈e::es,e'.rows.length<=B)/\B<=10000/\∀H',cI K H0 H' S (e.add r::es) (B+1)->Q .non H'
def nD(K:W.Frag):Sp:=fun vs H Q _=>∃(S:Addr)(y:V),vs=[.ref S,y]/\tP K S y H Q
theorem mZ(T:Txt K mg t):FnOk P w K mg base CX0 1 t.f_126 t.e_126 ["_law_stack","_law_row"] (nD K):=by
 refine T.d_126.F.ok yN ∅ ?_;rintro cdv A outer s H vs Q E hr ⟨S,y,rfl,H0,xs,e,es,f,g,r,B,sm,hS,hK,hy,nd,fr0,few,hB,q⟩;refine ⟨_,
   (XSs.h
   (aj
    (aR (bS PySem.F.plainAttrs_list PySem.F.slot_list_append PySem.F.type_list_append bo (aw b5 (aw aF (yqv 0 vl) (cn bO ac)) ac) (aa (yqv 1 vl) af))))),?_⟩
 rw [show start _ [V.ref S,y]=[some (.ref S),some y] from rfl];obtain ⟨xs',x,f',g',rfl,rfl,h1,h2⟩:=hK.inv;obtain ⟨qq,a,o,ys,zs,fa,fo,rfl,hq,ha,hr1,ho,hr2,rfl⟩:=h2;rwa [];refine zAA _ _ (SqL.of hS) eS ?_;rwa [];refine zAC _ _ hq rfl (.inl ⟨rfl,_,SqL.of ha⟩) ?_;rwa [];have ly:=hr1.length;have lB:=few e Jo;have nd':(S::((a::o::((fa++g)++fo))++f')).Nodup:=by
  refine (List.Perm.nodup_iff ?_).mp nd;refine .cons _ (.cons _ (.cons _ ?_));show ((fa++fo)++f'++g).Perm ((fa++g++fo)++f');have e1:(fa++fo)++f'++g=fa++((fo++f')++g):=by simp only [List.append_assoc]
  have e2:(fa++g++fo)++f'=fa++(g++(fo++f')):=by simp only [List.append_assoc]
  rw [e1,e2];exact List.Perm.append_left fa sR
 have mem':∀b,b∈S::((a::o::((fa++g)++fo))++f')->b∈S::((a::o::(fa++fo))++f'++g):=fun b hb=>by simp only [List.mem_cons,List.mem_append] at hb ⊢;rcases hb with z | (z | z | (z | z) | z) | z<;>simp [z]
 have nS:¬S=a:=fun z=>by subst z;simp at nd
 have na:a∉(o::((fa++g)++fo))++f':=(zq27.mp (zq27.mp nd').2).1;have naf:a∉f':=fun z=>na (d8 _ z);have nao:¬o=a:=fun z=>na (by rw [<- z];simp);have nafa:a∉fa:=fun z=>na (by simp [z]);have nag:a∉g:=fun z=>na (by simp [z]);have nafo:a∉fo:=fun z=>na (by simp [z]);have tt:TSame H (upd H a (.lst (ys++[y]))):=TSame.updL ha;refine zAD ys ha (by rw [zq3];omega) (q _ ⟨sm.updM (fr0 a Jo),zAC (xs'++[.ref qq]) _ (by rw [aE nS];exact hS) (.snoc (h1.keep tt (Kept.upd naf)) (zBF qq a o (ys++[y]) zs (fa++g) fo rfl (tt.seqT hq) ae ((hr1.keep tt (Kept.upd nafa)).snoc (hy.keep tt (Kept.upd nag))) (by rw [aE nao];exact ho) (hr2.keep tt (Kept.upd nafo)) rfl)) nd' fun b hb=>fr0 b (mem' b hb),fun e' he'=>?_⟩);rcases zq4.mp he' with z | z
 ·subst z;show (e.rows++[r]).length<=B+1;simp;omega
 ·have:=few e' (bH _ z);omega
def nR(K:W.Frag)(S:Addr)(H:Hp)(Q:VK):Prop:=∃(H0:Hp)(e:Ent)(e2:Ent)(es:List Ent)(B:Nat),cI K H0 H S (e::e2::es) B/\B<=10000/\∀H',cI K H0 H' S (dh (e::e2::es)) (B+1)->Q .non H'
def iL(K:W.Frag):Sp:=fun vs H Q _=>∃(S:Addr),vs=[.ref S]/\nR K S H Q
theorem fJ{S:Addr}{y:V}{H:Hp}{Q:VK}{E:XK}:nD K [.ref S,y] H Q E=∃(H0:Hp)(xs:List V)(e:Ent)(es:List Ent)(f g:List Addr)(r:Stm)(B:Nat),Same H0 H/\H S=some (.lst xs)/\StkV K H xs (e::es) f/\StmV K H y r g/\(S::(f++g)).Nodup/\(∀a∈S::(f++g),H0 a=none)/\
 (∀e'∈e::es,e'.rows.length<=B)/\B<=10000/\∀H',cI K H0 H' S (e.add r::es) (B+1)->Q .non H':=propext ⟨by rintro ⟨_,_,e,q⟩;cases e;exact q,fun q=>zAE _ _ rfl q⟩
theorem oI(T:Txt K mg t):FnOk P w K mg base CX0 2 t.f_127 t.e_127 ["_law_stack"] (iL K):=by
 have G_126:=@mZ P w K mg base t T;refine T.d_127.F.ok sc_127 ∅ (fun cdv A outer s H vs Q E hr h=>?_);obtain ⟨S,rfl,H0,e,e2,es,B,⟨sm,⟨xs,f,hS,hK,nd,fr0⟩,few⟩,hB,q⟩:=h;refine ⟨_,
   (XSs.h
   (ai
    (ju (js PySem.F.plainAttrs_list PySem.F.slot_list_pop PySem.F.type_list_pop lw (yqv 0 vl)) (gr rfl (bz (aK (i:=1) sc_127.nd rfl ll) (bz (aK (i:=2) sc_127.nd rfl ll) (bz (aK (i:=3) sc_127.nd rfl ll) (bz (aK (i:=4) sc_127.nd rfl ll) fw))))))
   (aj
    (aD (am aU (yqv 1 vl) ao (au _))
     (aj
      (aR (aB T.d_126 G_126 hr.m (aa (yqv 0 vl) (aa (bb (aa ao (aa (yqv 3 vl) (aa (yqv 2 vl) af)))) af)) gl)))
     (aj
      (aD (am aU (yqv 1 vl) ao (au _))
       (aj
        (aR (aB T.d_126 G_126 hr.m (aa (yqv 0 vl) (aa (bb (aa ao (aa (yqv 3 vl) (aa (yqv 2 vl) (aa (aH af) af))))) af)) gl)))
       (aj
        (aR (aB T.d_126 G_126 hr.m (aa (yqv 0 vl) (aa (bb (aa ao (aa (yqv 3 vl) (aa (yqv 4 vl) (aa (yqv 2 vl) af))))) af)) gl))))))))),?_⟩
 rw [show start _ [V.ref S]=[some (.ref S),none,none,none,none] from rfl];obtain ⟨xs',x,f',g',rfl,rfl,h1,h2⟩:=hK.inv;obtain ⟨qq,a,o,ys,zs,fa,fo,rfl,hq,ha,hr1,ho,hr2,rfl⟩:=h2;rwa [fJ];refine ⟨.inl ⟨rfl,_,SqL.of hS⟩,zAA _ (.ref qq) hS Jo ?_⟩;rwa [fJ];have tS:∀o',TSame H (upd H S o'):=fun o'=>TSame.updL hS;have nS:S∉(a::o::(fa++fo))++f':=(zq27.mp nd).1;have ndf:=(zq27.mp nd).2;have nSf:S∉f':=fun z=>nS (d8 _ z);have nSa:¬a=S:=fun z=>nS (by rw [z];simp);have nSo:¬o=S:=fun z=>nS (by rw [z];simp);have nSfa:S∉fa:=fun z=>nS (by simp [z]);have nSfo:S∉fo:=fun z=>nS (by simp [z]);have edl:(xs'++[V.ref qq]).dropLast=xs':=by simp
 rw [edl];have tt:=tS (.lst xs');have s1:Same H0 (upd H S (.lst xs')):=sm.updM (fr0 S Jo);have k1:=h1.keep tt (Kept.upd nSf);have r1:=hr1.keep tt (Kept.upd nSfa);have r2:=hr2.keep tt (Kept.upd nSfo);have ha1:upd H S (.lst xs') a=some (.lst ys):=by rw [aE nSa];exact ha
 have ho1:upd H S (.lst xs') o=some (.lst zs):=by rw [aE nSo];exact ho
 have few':∀e'∈e2::es,e'.rows.length<=B:=fun e' he=>few e' (bH _ he);have q':∀H',cI K H0 H' S (e2.add (bR e)::es) (B+1)->Q .non H':=q;have sub:∀(g:List Addr),(∀b∈g,b∈a::o::(fa++fo))->∀b∈S::(f'++g),b∈S::((a::o::(fa++fo))++f'):=fun g hg b hb=>by
  rcases zq4.mp hb with z | z
  ·rw [z];simp
  ·rcases zq10.mp z with z | z
   ·exact bH _ (d8 _ z)
   ·exact bH _ (jx _ (hg b z))
 have nds:∀(g:List Addr),g.Sublist (a::o::(fa++fo))->(S::(f'++g)).Nodup:=fun g hg=>by
  have h3:(g++f').Nodup:=ndf.sublist (List.Sublist.append hg (List.Sublist.refl _));have h4:(f'++g).Nodup:=(List.Perm.nodup_iff sR).mp h3;refine zq27.mpr ⟨fun z=>?_,h4⟩;rcases zq10.mp z with z | z
  ·exact nSf z
  ·exact nS (jx _ (hg.subset z))
 refine zAD _ (tt.seqT hq) rfl ?_;rwa [fJ];have dc:bR e=.ifs e.name e.ones e.rows->∀p,upd H S (.lst xs') p=none->∃(H0_1:Hp)(xs:List V)(e_1:Ent)(es_1:List Ent)(f g:List Addr)(r:Stm)(B_1:Nat),Same H0_1 (upd (upd H S (.lst xs')) p (.tup [V.str "if",V.str e.name,V.ref o,V.ref a]))/\upd (upd H S (.lst xs')) p (.tup [V.str "if",V.str e.name,V.ref o,V.ref a]) S=some (.lst xs)/\
   StkV K (upd (upd H S (.lst xs')) p (.tup [V.str "if",V.str e.name,V.ref o,V.ref a])) xs (e_1::es_1) f/\StmV K (upd (upd H S (.lst xs')) p (.tup [V.str "if",V.str e.name,V.ref o,V.ref a])) (.ref p) r g/\(S::(f++g)).Nodup/\(∀b∈S::(f++g),H0_1 b=none)/\(∀e'∈e_1::es_1,e'.rows.length<=B_1)/\B_1<=10000/\
   ∀H',cI K H0_1 H' S (e_1.add r::es_1) (B_1+1)->Q .non H':=by
  intro hcl p hp;have s2:=Same.upd (o:=.tup [V.str "if",V.str e.name,V.ref o,V.ref a]) hp;rw [hcl] at q';have pm:(o::a::(fo++fa)).Perm (a::o::(fa++fo)):=(List.Perm.swap a o _).trans (.cons _ (.cons _ sR));refine zAL H0 xs' e2 es f' (o::a::(fo++fa)) (.ifs e.name e.ones e.rows) B (zBJ (s1.trans s2) (s2 _ _ ae) (k1.keep s2.ts (Kept.of s2)) (.ifs (SqT.of ae) (s2 _ _ ho1) (s2 _ _ ha1) (r2.same s2) (r1.same s2)) ?_ (fun b hb=>fr0 b (sub _ (fun b hb=>pm.mem_iff.mp hb) b hb)) few' hB q');refine (List.Perm.nodup_iff (.cons _ ?_)).mp (nds _ (List.Sublist.refl _));exact List.Perm.append_left _ pm.symm
 cases hkd:e.kind with
 |whl=>
  refine aO (fun _=>fun p hp=>?_) (fun z=>absurd rfl z);have s2:=Same.upd (o:=.tup [V.str "while",V.str e.name,V.ref a]) hp;have hcl:bR e=.whl e.name e.rows:=by unfold bR;rw [hkd]
  rw [hcl] at q';refine zAL H0 xs' e2 es f' (a::fa) (.whl e.name e.rows) B (zBJ (s1.trans s2) (s2 _ _ ae) (k1.keep s2.ts (Kept.of s2)) (.whl (SqT.of ae) (s2 _ _ ha1) (r1.same s2)) (nds _ ?_) (fun b hb=>fr0 b (sub _ ?_ b hb)) few' hB q')
  ·exact .cons_cons _ (.cons _ (v8 _ _))
  ·intro b hb;simp at hb ⊢;rcases hb with z | z<;>simp [z]
 |iff=>
  refine aO (fun z=>absurd z Jk) (fun _=>aO (fun _=>fun p hp p2 hp2=>?_) (fun z=>absurd rfl z));have s2:=Same.upd (o:=.lst []) hp;have s3:=Same.upd (o:=.tup [V.str "if",V.str e.name,V.ref a,V.ref p]) hp2;have s23:=s2.trans s3;have hcl:bR e=.ifs e.name e.rows []:=by unfold bR;rw [hkd]
  rw [hcl] at q';have np:∀b,b∈S::((a::o::(fa++fo))++f')->¬p=b:=fun b hb z=>by
   have ex:∃u,upd H S (.lst xs') b=some u:=by
    rcases zq4.mp hb with y | y
    ·exact ⟨_,by rw [y];exact ae⟩
    rcases zq10.mp y with y | y
    ·rcases zq4.mp y with y | y
     ·exact ⟨_,by rw [y];exact ha1⟩
     rcases zq4.mp y with y | y
     ·exact ⟨_,by rw [y];exact ho1⟩
     rcases zq10.mp y with y | y
     ·obtain ⟨_,h⟩:=r1.tracked b y;exact ⟨_,h⟩
     ·obtain ⟨_,h⟩:=r2.tracked b y;exact ⟨_,h⟩
    ·obtain ⟨_,h⟩:=k1.tracked b y;exact ⟨_,h⟩
   obtain ⟨u,hu⟩:=ex;exact aA hu hp z.symm
  have sa:∀b∈S::(f'++(a::fa)),b∈S::((a::o::(fa++fo))++f'):=sub _ (fun b hb=>by simp at hb ⊢;rcases hb with z | z<;>simp [z]);refine ⟨H0,xs',e2,es,f',a::p::(fa++[]),.ifs e.name e.rows [],B,s1.trans s23,s23 _ _ ae,k1.keep s23.ts (Kept.of s23),.ifs (SqT.of ae) (s23 _ _ ha1) (s3 _ _ ae) (r1.same s23) .nil,?_,fun b hb=>?_,few',hB,q'⟩
  ·have h5:(p::(S::(f'++(a::fa)))).Nodup:=zq27.mpr ⟨fun z=>np p (sa p z) rfl,nds _ (.cons_cons _ (.cons _ (v8 _ _)))⟩;refine (List.Perm.nodup_iff ?_).mp h5;rw [gg];refine (List.Perm.swap S p _).trans (.cons _ ?_);have e1:f'++a::p::fa=(f'++[a])++p::fa:=by simp
   have e2:f'++a::fa=(f'++[a])++fa:=by simp
   rw [e1,e2];exact List.perm_middle.symm
  ·by_cases hbp:b=p
   ·rw [hbp];exact s1.free hp
   ·refine fr0 b (sa b ?_);simp at hb ⊢;rcases hb with z | z | z | z | z
    ·exact .inl z
    ·exact .inr (.inl z)
    ·exact .inr (.inr (.inl z))
    ·exact absurd z hbp
    ·exact .inr (.inr (.inr z))
 |all=>
  refine aO (fun z=>absurd z Jk) (fun _=>aO (fun z=>absurd z Jk) (fun _=>fun p hp=>?_));exact dc (by unfold bR;rw [hkd]) p hp
 |els=>refine aO (fun z=>absurd z Jk) (fun _=>aO (fun z=>absurd z Jk) (fun _=>fun p hp=>?_));exact dc (by unfold bR;rw [hkd]) p hp
def kQ(K:W.Frag)(a:Addr)(b:Addr)(w:Int)(most:Int)(H:Hp)(Q:VK):Prop:=∃(cs:List Int)(ns:List Str),SqL K H a (cs.map V.int)/\cs.length<=63/\(∀z∈cs,Builtin.Int.intBits z<=2 ^ 20)/\SqL K H b (ns.map V.str)/\0<=w/\w<=8/\
 ∀p xs f H',Same H H'->H' p=some (.lst xs)->StmsV K H' xs (eG cs ns w most) f->(p::f).Nodup->(∀c∈p::f,H c=none)->Q (.ref p) H'
def hV(K:W.Frag):Sp:=fun vs H Q _=>∃(a:Addr)(b:Addr)(w:Int)(most:Int),vs=[.ref a,.ref b,.int w,.int most]/\kQ K a b w most H Q
theorem fj{S:Addr}{H:Hp}{Q:VK}{E:XK}:iL K [.ref S] H Q E=∃(H0:Hp)(e e2:Ent)(es:List Ent)(B:Nat),cI K H0 H S (e::e2::es) B/\B<=10000/\∀H',cI K H0 H' S (dh (e::e2::es)) (B+1)->Q .non H':=propext ⟨by rintro ⟨_,e,q⟩;cases e;exact q,fun q=>zn _ rfl q⟩
theorem lH(T:Txt K mg t):FnOk P w K mg base CX0 4 t.f_128 t.e_128 ["_law_cells","_law_names_here","_law_width","_law_most"] (hV K):=by
 have G_122:=@gQ P w K mg base t T;have G_125:=@uj P w K mg base t T;have G_126:=@mZ P w K mg base t T;have G_127:=@oI P w K mg base t T;refine T.d_128.F.ok sc_128 ∅ ?_;rintro cdv A outer s H vs Q E hr ⟨a,b,w,most,rfl,cs,ns,hA,lcs,bcs,hB,w0,w8,q⟩;refine ⟨_,
   (XSs.h
   (ai
    (ar (i:=4) sc_128.nd rfl ll (aH (aa (bb (aa ao (aa (aH af) (aa ao (aa (aH af) af))))) af)))
   (ai
    (ar (i:=5) sc_128.nd rfl ll ac)
   (bh
    (cc PassesOwn.never rfl (kH T.z_enumerate (aa (yqv 0 vl) af) gl) (gr rfl (bz (aK (i:=6) sc_128.nd rfl ll) (bz (aK (i:=7) sc_128.nd rfl ll) fw)))
     (ai
      (ar (i:=8) sc_128.nd rfl ll (aB T.d_122 G_122 hr.m (aa (yqv 7 vl) (aa (yqv 6 vl) af)) gl))
     (ai
      (ar (i:=9) sc_128.nd rfl ll (ak aN (yqv 8 vl) ac))
     (aj
      (aD (aW (bc (am cy (yqv 9 vl) ac (au _)) (b9 (am bG (ax aq gl T.z_len PySem.boot_len (aa (yqv 4 vl) af)) ac (au _)))))
       (aj
        (aD (aW (bc (am aU (yqv 9 vl) ac (au _)) (b9 (am aU (aw b5 (aw aF (yqv 4 vl) (cn bO ac)) ac) ao (au _)))))
         (ai
          (ju (js PySem.F.plainAttrs_list PySem.F.slot_list_pop PySem.F.type_list_pop lw (yqv 4 vl)) (gr rfl (bz (aK (i:=10) sc_128.nd rfl ll) (bz (aK (i:=11) sc_128.nd rfl ll) (bz (aK (i:=12) sc_128.nd rfl ll) (bz (aK (i:=13) sc_128.nd rfl ll) fw))))))
         (aj
          (aR (bS PySem.F.plainAttrs_list PySem.F.slot_list_append PySem.F.type_list_append bo (yqv 4 vl) (aa (bb (aa ao (aa (aH af) (aa (yqv 12 vl) (aa (yqv 11 vl) af))))) af)))))
         (aj
          (aR (aB T.d_127 G_127 hr.m (aa (yqv 4 vl) af) gl)))))
       (aj
        (aD (am cy (yqv 5 vl) (yqv 3 vl) (au _))
         (ai
          (ar (i:=5) sc_128.nd rfl ll (ak aL (yqv 5 vl) ac))
         (aj
          (aD (aW (bc (am cy (yqv 9 vl) ac (au _)) (bc (am cy (ax aq gl T.z_len PySem.boot_len (aa (yqv 4 vl) af)) ac (au _)) (b9 (am bG (ax aq gl T.z_len PySem.boot_len (aa (yqv 1 vl) af)) ac (au _))))))
           (aj
            (aR (bS PySem.F.plainAttrs_list PySem.F.slot_list_append PySem.F.type_list_append bo (yqv 4 vl) (aa (bb (aa (aw aF (aH (bp Jp)) (ak jw (yqv 9 vl) ac)) (aa (aH af) (aa (aw aF (yqv 1 vl) (ak aN (ak aM (yqv 8 vl) ac) (ax aq gl T.z_len PySem.boot_len (aa (yqv 1 vl) af)))) (aa (aH af) af))))) af))))
           (aj
            (aR (aB T.d_126 G_126 hr.m (aa (yqv 4 vl) (aa (aB T.d_125 G_125 hr.m (aa (ak aM (yqv 8 vl) ac) (aa (yqv 1 vl) (aa (yqv 2 vl) af))) gl) af)) gl))))))
         ay)))))))
   (ai
    (fM PassesOwn.never (am bG (ax aq gl T.z_len PySem.boot_len (aa (yqv 4 vl) af)) ac (au _))
     (aj
      (aR (aB T.d_127 G_127 hr.m (aa (yqv 4 vl) af) gl))))
   (aj
    (av (aw b5 (aw aF (yqv 4 vl) ac) ac)))))))),?_⟩
 rw [show start _ [V.ref a,V.ref b,V.int w,V.int most]=[some (.ref a),some (.ref b),some (.int w),some (.int most),none,none,none,none,none,none,none,none,none,none] from rfl];rwa [dq,lR,fJ,fj];intro p1 hp1 p2 hp2 p3 hp3 S hS;have s1:Same H (upd H p1 (.lst [])):=Same.upd hp1;have s2:=s1.updN (o:=.lst []) hp2;have s3:=s2.updN (o:=.tup [V.str "all",V.ref p1,V.str "",V.ref p2]) hp3;have s4:=s3.updN (o:=.lst [V.ref p3]) hS;refine ⟨fun σ H'=>(∃B,B<=63/\cI K H H' S (bY ns w most cs 0 start0).1 B/\1<=(bY ns w most cs 0 start0).1.length/\(bY ns w most cs 0 start0).1.length<=9)/\∃o5 o6 o7 o8 o9 o10 o11 o12 o13,σ=[some (.ref a),some (.ref b),some (.int w),some (.int most),some (.ref S),o5,o6,o7,o8,o9,o10,o11,o12,o13],⟨⟨_,s4.seq hA⟩,?_⟩,?_⟩
 ·obtain ⟨Pv,hPv⟩:∃Pv:Nat->L2.St->Hp->Prop,Pv=fun i σ H'=>(cI K H H' S (bY ns w most (cs.take i) 0 start0).1 i/\1<=(bY ns w most (cs.take i) 0 start0).1.length/\(bY ns w most (cs.take i) 0 start0).1.length<=9)/\∃o6 o7 o8 o9 o10 o11 o12 o13,σ=[some (.ref a),some (.ref b),some (.int w),some (.int most),some (.ref S),some (.int (bY ns w most (cs.take i) 0 start0).2),o6,o7,o8,o9,o10,o11,o12,o13]:=⟨_,rfl⟩
  have hI:∀i σ H',((cI K H H' S (bY ns w most (cs.take i) 0 start0).1 i/\1<=(bY ns w most (cs.take i) 0 start0).1.length/\(bY ns w most (cs.take i) 0 start0).1.length<=9)/\∃o6 o7 o8 o9 o10 o11 o12 o13,σ=[some (.ref a),some (.ref b),some (.int w),some (.int most),some (.ref S),some (.int (bY ns w most (cs.take i) 0 start0).2),o6,o7,o8,o9,o10,o11,o12,o13])->Pv i σ H':=by rw [hPv];exact fun _ _ _ h=>h
  have hE:∀i σ H',Pv i σ H'->(cI K H H' S (bY ns w most (cs.take i) 0 start0).1 i/\1<=(bY ns w most (cs.take i) 0 start0).1.length/\(bY ns w most (cs.take i) 0 start0).1.length<=9)/\∃o6 o7 o8 o9 o10 o11 o12 o13,σ=[some (.ref a),some (.ref b),some (.int w),some (.int most),some (.ref S),some (.int (bY ns w most (cs.take i) 0 start0).2),o6,o7,o8,o9,o10,o11,o12,o13]:=by rw [hPv];exact fun _ _ _ h=>h
  clear hPv;refine mP (xs:=cs.map V.int) Pv (hI _ _ _ ?_) (fun i σ H' _ h=>(hE _ _ _ h).1.1.same.seq hA) ?_ ?_
  ·have hp1':upd (upd (upd (upd H p1 (.lst [])) p2 (.lst [])) p3 (.tup [V.str "all",V.ref p1,V.str "",V.ref p2])) S (.lst [V.ref p3]) p1=some (.lst []):=Same.upd hS _ _ (Same.upd hp3 _ _ (Same.upd hp2 _ _ ae));have hp2':upd (upd (upd (upd H p1 (.lst [])) p2 (.lst [])) p3 (.tup [V.str "all",V.ref p1,V.str "",V.ref p2])) S (.lst [V.ref p3]) p2=some (.lst []):=Same.upd hS _ _ (Same.upd hp3 _ _ ae);have hp3':upd (upd (upd (upd H p1 (.lst [])) p2 (.lst [])) p3 (.tup [V.str "all",V.ref p1,V.str "",V.ref p2])) S (.lst [V.ref p3]) p3=some (.tup [V.str "all",V.ref p1,V.str "",V.ref p2]):=Same.upd hS _ _ ae;have n1:¬p1=p2:=fun z=>by rw [z] at hp2;exact absurd hp2 (by rw [ae];exact fun z=>nomatch z)
   have n2:¬p1=S:=fun z=>by rw [<- z] at hS;rw [Same.upd hp3 _ _ (Same.upd hp2 _ _ ae)] at hS;cases hS
   have n3:¬p2=S:=fun z=>by rw [<- z] at hS;rw [Same.upd hp3 _ _ ae] at hS;cases hS
   refine ⟨zAB ⟨s4,zAC ([.ref p3]) ((p1::p2::([]++[]))++[]) ae (StkV.snoc (xs:=[]) .nil (zBF p3 p1 p2 ([]) ([]) ([]) ([]) rfl (SqT.of hp3') hp1' .nil hp2' .nil rfl)) ?_ fun c hc=>?_,fun e he=>?_⟩ (by simp [bY,start0]) (by simp [bY,start0]),zAL _ _ _ _ _ _ _ _ rfl⟩
   ·simp only [List.nodup_cons,List.append_nil,List.cons_append,List.nil_append,List.mem_cons,List.not_mem_nil,or_false,not_or];exact zAB ⟨fun z=>n2 z.symm,fun z=>n3 z.symm⟩ n1 Jo
   ·simp at hc;rcases hc with z | z | z
    ·rw [z];exact s3.free hS
    ·rw [z];exact hp1
    ·rw [z];exact s1.free hp2
   ·have:e=⟨.all,[],"",[]⟩:=by simpa [bY,start0] using he
    rw [this];exact eC _
  ·intro i x σ H' pp hx hpp hv;obtain ⟨⟨⟨sm,⟨xs,f,hSx,hK,nd,fr⟩,few⟩,l1,l9⟩,o6,o7,o8,o9,o10,o11,o12,o13,rfl⟩:=hE _ _ _ hv;clear hv;rw [cA] at hx;obtain ⟨c,hc,rfl⟩:=zq46.mp hx;obtain ⟨hi,hce⟩:=zq17.mp hc;have enx:bY ns w most (cs.take (i+1)) 0 start0=cD ns w most i c (bY ns w most (cs.take i) 0 start0):=by rw [fP hi,hce,iJ,gh,Nat.zero_add,sX Jn]
   have hN:∀σ H',((cI K H H' S (cD ns w most i c (bY ns w most (cs.take i) 0 start0)).1 (i+1)/\1<=(cD ns w most i c (bY ns w most (cs.take i) 0 start0)).1.length/\(cD ns w most i c (bY ns w most (cs.take i) 0 start0)).1.length<=9)/\∃o6 o7 o8 o9 o10 o11 o12 o13,σ=[some (.ref a),some (.ref b),some (.int w),some (.int most),some (.ref S),some (.int (cD ns w most i c (bY ns w most (cs.take i) 0 start0)).2),o6,o7,o8,o9,o10,o11,o12,o13])->Pv (i+1) σ H':=fun σ H' h=>hI _ _ _ (by rw [enx];exact h);clear hI hE enx;generalize bY ns w most (cs.take i) 0 start0=st at hK few l1 l9 hN ⊢;obtain ⟨es,many⟩:=st;rwa [dq,lR,fJ,fj];refine zAD _ (SqT.of ae) rfl ?_;rwa [dq,lR,fJ,fj];refine zAG (bcs c (dr hc)) Jn Jn ?_;have s5:Same H' (upd H' pp (.tup [V.int i,V.int c])):=Same.upd hpp;have sm5:=sm.trans s5;have hS5:=s5 _ _ hSx;have hK5:=hK.keep s5.ts (Kept.of s5);have hB5:=sm5.seq hB;generalize upd H' pp (.tup [V.int i,V.int c])=H5 at s5 sm5 hS5 hK5 hB5 ⊢;clear hSx hK;have lx:=hK5.length;have g0:=gM c i;unfold cD at hN;generalize cJ c i=g at g0 hN ⊢;have y0:0<=g % 12:=cB _ Jm;have y1:g % 12<12:=d4 _ Jm;have trk:∀c'∈S::f,∃u,H5 c'=some u:=fun c' hc'=>by
    rcases zq4.mp hc' with z | z
    ·exact ⟨_,by rw [z];exact hS5⟩
    ·obtain ⟨u,hu⟩:=hK5.tracked c' z;exact ⟨_,hu⟩
   dsimp only at l1 l9 few lx hN;refine wM (SqL.of hS5) (fun e1 c2=>?_) (fun e1=>?_)
   ·have c1:g % 12<2/\1<es.length:=⟨e1,Jn⟩
    rw [zq1 c1] at hN;obtain ⟨e,e2,es',rfl⟩:∃e e2 es',es=e::e2::es':=by
     match es,c1.2 with
     |e::e2::es',_=>exact zAR e e2 es' rfl
    obtain ⟨xs',x,f',g',rfl,rfl,h1,h2⟩:=hK5.inv;obtain ⟨qq,ra,oo,ys,zs,fa,fo,rfl,hq,ha,hr1,ho,hr2,rfl⟩:=id h2;refine pP (SqL.of hS5) hq (fun e3 e4=>?_) (fun e3=>?_)
    ·dsimp only at hN;rw [zq1 ⟨e3,e4⟩] at hN;refine ⟨.inl ⟨rfl,_,SqL.of hS5⟩,zAA _ (.ref qq) hS5 Jo ?_⟩;rwa [];have edl:(xs'++[V.ref qq]).dropLast=xs':=by simp
     rw [edl];have tt:TSame H5 (upd H5 S (.lst xs')):=TSame.updL hS5;have nS:S∉(ra::oo::(fa++fo))++f':=(zq27.mp nd).1;refine zAD _ (tt.seqT hq) rfl ?_;rwa [];refine ⟨.inl ⟨rfl,_,SqL.of ae⟩,fun u1 hu1 u2 hu2=>?_⟩;have sB:Same H (upd H5 S (.lst xs')):=sm5.updM (fr S Jo);have nSa:¬ra=S:=fun z=>nS (by rw [z];simp);have nSfa:S∉fa:=fun z=>nS (by simp [z]);have nSf:S∉f':=fun z=>nS (by simp [z]);have ha1:upd H5 S (.lst xs') ra=some (.lst ys):=by rw [aE nSa];exact ha
     have k1:=h1.keep tt (Kept.upd (o:=.lst xs') nSf);have r1:=hr1.keep tt (Kept.upd (o:=.lst xs') nSfa);have t1:=Same.upd (o:=.lst []) hu1;have t2:=t1.updN (o:=.tup [V.str "else",V.ref u1,V.str e.name,V.ref ra]) hu2;have nd3:(S::((ra::fa)++f')).Nodup:=by refine nd.sublist (.cons_cons _ (List.Sublist.append (.cons_cons _ (.cons _ (v8 _ _))) (List.Sublist.refl _)))
     have sub3:∀c'∈S::((ra::fa)++f'),c'∈S::((ra::oo::(fa++fo))++f'):=fun c' hc'=>by simp only [List.cons_append,List.mem_cons,List.mem_append] at hc' ⊢;rcases hc' with z | z | z | z<;>simp [z]
     have no1:u1∉S::((ra::fa)++f'):=fun z=>by
      have ex:∃u,upd H5 S (.lst xs') u1=some u:=by
       by_cases zS:u1=S
       ·exact ⟨_,by rw [zS];exact ae⟩
       ·obtain ⟨u,hu⟩:=trk u1 (sub3 u1 z);exact ⟨u,by rw [aE zS];exact hu⟩
      obtain ⟨u,hu⟩:=ex;rw [hu1] at hu;cases hu
     refine zAD xs' (t2 _ _ ae) (by simp at lx l9;rw [zq3];omega) (hN _ _ ⟨zAB (nj (fo:=fa) (sB.trans t2) (t2 _ _ ae) (k1.keep t2.ts (Kept.of t2)) (Same.upd hu2 _ _ ae) (t2 _ _ ha1) (r1.same t2) (SqT.of ae) ?_ (fun c' hc'=>?_) (fun e' he'=>by have:=few e' (bH _ he');omega)) Jo (by simpa using l9),zAL _ _ _ _ _ _ _ _ rfl⟩)
     ·have n4:(u1::S::((ra::fa)++f')).Nodup:=zq27.mpr ⟨no1,nd3⟩;exact (List.Perm.nodup_iff (List.Perm.swap S u1 _)).mp n4
     ·by_cases z1:c'=u1
      ·rw [z1];exact sB.free hu1
      ·refine fr c' (sub3 c' ?_);simp only [List.cons_append,List.mem_cons] at hc' ⊢;rcases hc' with z | z | z
       ·exact .inl z
       ·exact absurd z z1
       ·exact .inr z
    ·dsimp only at hN;rw [zq0 e3] at hN;refine zAT H e e2 es' i (zAB ⟨sm5,zAC _ _ hS5 hK5 nd fr,few⟩ Jn fun H6 k6=>hN _ _ ⟨zAB k6 ?_ ?_,zAL _ _ _ _ _ _ _ _ rfl⟩)
     ·rw [br];omega
     ·rw [br];simp at l9;omega
   ·have c1:¬(g % 12<2/\1<es.length):=fun z=>e1 ⟨z.1,Jn⟩;rw [zq0 c1] at hN;refine aO (fun e2=>?_) (fun e2=>?_)
    ·rw [zq1 e2] at hN;refine AO (SqL.of hS5) hB5 (fun e3 e4 e5=>?_) (fun e3=>?_)
     ·have hne:¬ns=[]:=fun z=>by rw [z] at e5;simp at e5
      rw [zq1 ⟨e3,Jn,hne⟩] at hN;refine ⟨.inl ⟨rfl,_,SqL.of hS5⟩,fun u1 hu1=>zAA _ _ (SqL.of ae) (x6 Jn Jn) fun u2 hu2=>?_⟩;have t1:=Same.upd (o:=.lst [V.str "if",V.str "while",V.str "if"]) hu1;have t2:=t1.updN (o:=.lst []) hu2;refine ⟨CDivB.small Jm Jm,zAD _ (.inl (t2.seq hB5)) (by rw [zq2];have:=zq59.mpr hne;omega) (zAA _ _ (t2.seq hB5) (by rw [zq2];exact jl hne) fun u3 hu3 u4 hu4=>?_)⟩;have t3:=t2.updN (o:=.lst []) hu3;have t4:=t3.updN (o:=.tup [V.str (kd3 (g % 12-2)).str,V.ref u2,V.str (gc (g / 12) ns),V.ref u3]) hu4;have m2:=t1.free hu2;have m3:=t2.free hu3;have n23:¬u2=u3:=fun z=>by rw [<- z,ae] at hu3;cases hu3
      have no2:u2∉S::f:=fun z=>by obtain ⟨u,hu⟩:=trk u2 z;rw [m2] at hu;cases hu
      have no3:u3∉S::f:=fun z=>by obtain ⟨u,hu⟩:=trk u3 z;rw [m3] at hu;cases hu
      refine zAD xs (t4 _ _ hS5) (by rw [zq3];omega) (hN _ _ ⟨zAB (nj (fo:=[]) (sm5.trans t4) (t4 _ _ hS5) (hK5.keep t4.ts (Kept.of t4)) (Same.upd hu4 _ _ (Same.upd hu3 _ _ ae)) (Same.upd hu4 _ _ ae) .nil (SqT.of ae) ?_ (fun c' hc'=>?_) (fun e he=>by have:=few e he;omega)) Jo (by simp;omega),zAL _ _ _ _ _ _ _ _ rfl⟩)
      ·have n1:=zq27.mp nd;simp only [List.cons_append,List.nil_append,List.nodup_cons,List.mem_cons,not_or] at no2 no3 ⊢;exact zAG (zAB (fun z=>no2.1 z.symm) (fun z=>no3.1 z.symm) n1.1) ⟨n23,no2.2⟩ no3.2 n1.2
      ·simp only [List.cons_append,List.nil_append,List.mem_cons] at hc';rcases hc' with z | z | z | z
       ·exact fr c' (by rw [z];simp)
       ·rw [z];exact sm5.free m2
       ·rw [z];exact sm5.free m3
       ·exact fr c' (bH _ z)
     ·have c3:¬(g % 12<5/\es.length<9/\¬ns=[]):=fun z=>e3 (zAB z.1 Jn (by have:=zq59.mpr z.2.2;rw [zq2];omega));rw [zq0 c3] at hN;obtain ⟨e,es',rfl⟩:∃e es',es=e::es':=by
       match es,l1 with
       |e::es',_=>exact zAJ e es' rfl
      refine ⟨CDivB.small Jm Jm,zAF ns hB5 w0 w8 fun p6 H6 s6 hp6 ht6=>?_⟩;refine zAL H xs e es' f ([]) (.deed (di (g / 12) ns w)) i (zBJ (sm5.trans s6) (s6 _ _ hS5) (hK5.keep s6.ts (Kept.of s6)) (.deed fU (SqT.of (by rw [oj];exact ht6))) (by rw [gg];exact nd) (fun c' hc'=>fr c' (by rw [gg] at hc';exact hc')) few Jn fun H7 k7=>?_);exact hN _ _ ⟨zAB k7 (by simp [iu]) (by simpa [iu] using l9),zAL _ _ _ _ _ _ _ _ rfl⟩
    ·rw [zq0 e2] at hN;exact hN _ _ ⟨zAB ⟨sm5,zAC _ _ hS5 hK5 nd fr,fun e he=>by have:=few e he;omega⟩ l1 l9,zAL _ _ _ _ _ _ _ _ rfl⟩
  ·intro σ H' hv;obtain ⟨⟨ok,l1,l9⟩,o6,o7,o8,o9,o10,o11,o12,o13,rfl⟩:=hE _ _ _ hv;clear hv hI hE;rw [zq2,fQ] at *;exact ⟨zAF _ lcs ok l1 l9,zAX _ _ _ _ _ _ _ _ _ rfl⟩
 ·rintro σ H' ⟨⟨B,hB63,ok,l1,l9⟩,o5,o6,o7,o8,o9,o10,o11,o12,o13,rfl⟩;obtain ⟨μ,hμ⟩:∃μ:L2.St->Hp->Nat,μ=fun _ H'=>match H' S with | some (.lst xs)=>xs.length | _=>0:=⟨_,rfl⟩
  refine fL (fun σ H'=>(∃es B,cI K H H' S es B/\B+es.length<=80/\1<=es.length/\bC es=eG cs ns w most)/\∃o5 o6 o7 o8 o9 o10 o11 o12 o13,σ=[some (.ref a),some (.ref b),some (.int w),some (.int most),some (.ref S),o5,o6,o7,o8,o9,o10,o11,o12,o13])
   μ ⟨zAC _ B ok Jn l1 rfl,zAX _ _ _ _ _ _ _ _ _ rfl⟩ ?_
  ·rintro σ H2 ⟨⟨es,B2,ok2,hb2,le2,hcl⟩,o5,o6,o7,o8,o9,o10,o11,o12,o13,rfl⟩;obtain ⟨sm,⟨xs,f,hSx,hK,nd,fr⟩,few⟩:=id ok2;have lx:=hK.length;rwa [fj];refine zn _ (.inl (SqL.of hSx)) (aO (fun e1=>?_) (fun e1=>?_))
   ·obtain ⟨e,e2,es',rfl⟩:∃e e2 es',es=e::e2::es':=by
     match es,(show 1<es.length by omega) with
     |e::e2::es',_=>exact zAR e e2 es' rfl
    refine zn (fun σ H'=>((∃es B,cI K H H' S es B/\B+es.length<=80/\1<=es.length/\bC es=eG cs ns w most)/\∃o5 o6 o7 o8 o9 o10 o11 o12 o13,σ=[some (.ref a),some (.ref b),some (.int w),some (.int most),some (.ref S),o5,o6,o7,o8,o9,o10,o11,o12,o13])/\μ σ H'<μ [some (.ref a),some (.ref b),some (.int w),some (.int most),some (.ref S),o5,o6,o7,o8,o9,o10,o11,o12,o13] H2) (fun σ' H' h=>zAD _ h.2 rfl h.1) ?_;refine zAT H e e2 es' B2 (zAB ok2 Jn (fun H3 k3=>⟨⟨zAC _ (B2+1) k3 (by rw [br];simp at hb2;omega) (by rw [br];omega) ?_,zAX _ _ _ _ _ _ _ _ _ rfl⟩,?_⟩))
    ·rw [<- hcl];show bC (e2.add (bR e)::es')=_;rw [bC]
    ·obtain ⟨_,⟨xs3,f3,hS3,hK3,_,_⟩,_⟩:=k3;have l3:=hK3.length;rw [br] at l3;rw [hμ];dsimp only;rw [hS3,hSx];simp at lx;show xs3.length<xs.length;omega
   ·obtain ⟨e,rfl⟩:∃e,es=[e]:=by
     match es,le2,(show es.length<=1 by omega) with
     | [e],_,_=>exact ⟨e,rfl⟩
    obtain ⟨xs',x,f',g',rfl,rfl,h1,h2⟩:=hK.inv
    cases h1
    obtain ⟨qq,ra,oo,ys,zs,fa,fo,rfl,hq,ha,hr1,ho,hr2,rfl⟩:=id h2;have hcl':e.rows=eG cs ns w most:=by rw [<- hcl,bC]
    refine zAA _ _ (SqL.of hSx) rfl ?_;rwa [];refine zAA _ _ hq rfl (q ra ys fa H2 sm ha (by rw [<- hcl'];exact hr1) ?_ (fun c hc=>fr c ?_))
    ·exact nd.sublist (.cons _ (by rw [gg];exact .cons_cons _ (.cons _ (v8 _ _))))
    ·simp only [List.append_nil,List.cons_append,List.mem_cons,List.mem_append] at hc ⊢;rcases hc with z | z<;>simp [z]
theorem oR{a b:Addr}{w most:Int}{H:Hp}{Q:VK}{E:XK}:hV K [.ref a,.ref b,.int w,.int most] H Q E=∃(cs:List Int)(ns:List Str),SqL K H a (cs.map V.int)/\cs.length<=63/\(∀z∈cs,Builtin.Int.intBits z<=2 ^ 20)/\SqL K H b (ns.map V.str)/\0<=w/\w<=8/\
 ∀p xs f H',Same H H'->H' p=some (.lst xs)->StmsV K H' xs (eG cs ns w most) f->(p::f).Nodup->(∀c∈p::f,H c=none)->Q (.ref p) H':=propext ⟨by rintro ⟨_,_,_,_,e,q⟩;cases e;exact q,fun q=>zAO _ _ _ _ rfl q⟩
def eg(K:W.Frag)(d:Nat):Sp:=fun vs H Q _=>∃(a:Addr)(xs:List V)(ss:List Stm)(f:List Addr),vs=[.ref a]/\H a=some (.lst xs)/\StmsV K H xs ss f/\aY ss<d/\aJ ss<=1000/\
 ∀p ys g H',Same H H'->H' p=some (.lst ys)->StmsV K H' ys ss g->(p::g).Nodup->(∀c∈p::g,H c=none)->Q (.ref p) H'
def fm(K:W.Frag)(d:Nat):Sp:=fun vs H Q _=>∃(x:V)(s:Stm)(f:List Addr),vs=[x]/\StmV K H x s f/\s.deep<d/\s.many<=1000/\
 ∀y g H',Same H H'->StmV K H' y s g->g.Nodup->(∀c∈g,H c=none)->Q y H'
theorem rq{d:Nat}{x:V}{H:Hp}{Q:VK}{E:XK}:fm K d [x] H Q E=∃(s:Stm)(f:List Addr),StmV K H x s f/\s.deep<d/\s.many<=1000/\∀y g H',Same H H'->StmV K H' y s g->g.Nodup->(∀c∈g,H c=none)->Q y H':=
 propext ⟨by rintro ⟨_,s,f,e,q⟩;cases e;exact zAJ s f q,by rintro ⟨s,f,q⟩;exact zAI x s f rfl q⟩
theorem bE{d:Nat}{a:Addr}{H:Hp}{Q:VK}{E:XK}:eg K d [.ref a] H Q E=∃(xs:List V)(ss:List Stm)(f:List Addr),H a=some (.lst xs)/\StmsV K H xs ss f/\aY ss<d/\aJ ss<=1000/\
 ∀p ys g H',Same H H'->H' p=some (.lst ys)->StmsV K H' ys ss g->(p::g).Nodup->(∀c∈p::g,H c=none)->Q (.ref p) H':=
 propext ⟨by rintro ⟨_,xs,ss,f,e,q⟩;cases e;exact zAR xs ss f q,by rintro ⟨xs,ss,f,q⟩;exact zAO a xs ss f rfl q⟩
theorem fS(T:Txt K mg t)(d:Nat)(G_102:FnOk P w K mg base CX0 (2 * d+1) t.f_102 t.e_102 ["row"] (fm K d)):FnOk P w K mg base CX0 (2 * d+2) t.f_101 t.e_101 ["rows"] (eg K d):=by
 refine T.d_101.F.ok yA ∅ ?_;rintro cdv A outer s H vs Q E hr ⟨a,xs,ss,f,rfl,ha,hx,hd,hl,q⟩;refine ⟨_,
   (XSs.h
   (aj
    (av (bM (tns:=["row"]) (cns:=[]) (ci:=[]) rfl (CompSc.of Jl) (cr (yqv 0 vl)) (fun _=>(aK (i:=1) (show List.Nodup [(".0":Str),("row":Str)] by decide +kernel) rfl ll (Or.inr Jl))) (fun _=>cq) (fun _=>(aB T.d_102 G_102 hr.m (aa (yqv 1 vl) af) gl)))))),?_⟩
 rw [show start _ [V.ref a]=[some (.ref a)] from rfl];rwa [rq];refine ⟨⟨_,SqL.of ha⟩,fun acc hacc bk=>?_⟩;have lx:=hx.length;have lm:=gK ss;refine iY (xs:=xs) (fun i ys H'=>Same H H'/\H' acc=some (.lst ys)/\ys.length=i/\∃g,StmsV K H' ys (ss.take i) g/\(acc::g).Nodup/\∀c∈acc::g,H c=none) ?_ ?_ ?_ ?_
 ·exact zAG (Same.upd hacc) ae rfl (zAD ([]) .nil Jo (fun c hc=>by rw [zq15.mp hc];exact hacc))
 ·intro i ys H' _ h;exact SqL.of (h.1 _ _ ha)
 ·rintro i x ys H' os hxi ho ⟨sm,hacc2,ly,g,hg,nd,fr⟩
  match os,ho with
  | [o],_=>
   rwa [rq];refine ⟨zn ([some x]) rfl rfl,?_⟩;rw [zq1 trivial];obtain ⟨s,f',hs,hsv,_⟩:=hx.get hxi;have hi:i<ss.length:=(zq17.mp hs).1;have hse:ss[i]=s:=(zq17.mp hs).2;have hds:=fA (dr hs);refine zAC s f' (hsv.same sm) Jn (by have:=jY (dr hs);omega) fun y g2 H2 s2 hy nd2 fr2=>?_;have na:acc∉g:=(zq27.mp nd).1;have na2:acc∉g2:=fun z=>by rw [fr2 acc z] at hacc2;cases hacc2
   have tt:TSame H2 (upd H2 acc (.lst (ys++[y]))):=TSame.updL (s2 _ _ hacc2);refine zAP (s2 _ _ hacc2) (by rw [zq3];omega) ((sm.trans s2).updM hacc) ae (by simp [ly]) (zAD (g++g2) ?_ ?_ fun c hc=>?_)
   ·rw [fP hi,hse];exact ((hg.same s2).keep tt (Kept.upd na)).snoc (hy.keep tt (Kept.upd na2))
   ·refine zq27.mpr ⟨fun z=>(zq10.mp z).elim na na2,iz (zq27.mp nd).2 nd2 fun c h1 h2=>?_⟩;obtain ⟨zs,hz⟩:=hg.tracked c h1;rw [fr2 c h2] at hz;cases hz
   ·rcases zq4.mp hc with z | z
    ·rw [z];exact hacc
    ·rcases zq10.mp z with z | z
     ·exact fr c (bH _ z)
     ·exact sm.free (fr2 c z)
 ·rintro ys H' ⟨sm,hacc2,ly,g,hg,nd,fr⟩;rw [lx,fQ] at hg;exact q acc ys g H' sm hacc2 hg nd fr
theorem oh(T:Txt K mg t)(d:Nat)(G_101:FnOk P w K mg base CX0 (2 * d+2) t.f_101 t.e_101 ["rows"] (eg K d)):FnOk P w K mg base CX0 (2 * (d+1)+1) t.f_102 t.e_102 ["row"] (fm K (d+1)):=by
 refine T.d_102.F.ok yB ∅ ?_;rintro cdv A outer s H vs Q E hr ⟨x,s,f,rfl,hx,hd,hm,q⟩;refine ⟨_,
   (XSs.h
   (ai
    (aD (am aU (aw b5 (yqv 0 vl) ac) ao (au _))
     (aj
      (av (bb (aa ao (aa (aw b5 (yqv 0 vl) ac) (aa (aB T.d_101 G_101 hr.m (aa (aw b5 (yqv 0 vl) ac) af) gl) (aa (aB T.d_101 G_101 hr.m (aa (aw b5 (yqv 0 vl) ac) af) gl) af)))))))
     ay)
   (ai
    (aD (am aU (aw b5 (yqv 0 vl) ac) ao (au _))
     (aj
      (av (bb (aa ao (aa (aw b5 (yqv 0 vl) ac) (aa (aB T.d_101 G_101 hr.m (aa (aw b5 (yqv 0 vl) ac) af) gl) af))))))
     ay)
   (aj
    (av (yqv 0 vl)))))),?_⟩
 rw [show start _ [x]=[some x] from rfl]
 cases hx with
 | @deed q0 dd hf hq=>
  rwa [bE];refine vf hf hq Jk Jk Jk (zn _ rfl ?_);rw [zq0 zq8];refine vf hf hq Jk Jk Jk (zn _ rfl ?_);rw [zq0 zq8];exact q _ [] H (Same.refl H) (.deed hf hq) Jo (fun c hc=>by cases hc)
 | @ifs q0 a b n xs ys ones others f g hq ha hb h1 h2=>
  simp only [Stm.deep,Stm.many] at hd hm;rwa [bE];refine zAA _ _ hq rfl ?_;rwa [bE];refine aO (fun _=>zAA _ _ hq rfl (zAA _ _ hq rfl ?_)) (fun z=>absurd trivial z);rwa [bE];refine zAQ xs ones f ha h1 Jn Jn fun p1 zs1 g1 H1 s1 e1 k1 nd1 fr1=>zAA _ _ (s1.seqT hq) rfl ?_;rwa [bE];refine zAQ ys others g (s1 _ _ hb) (h2.same s1) Jn Jn fun p2 zs2 g2 H2 s2 e2 k2 nd2 fr2 p3 hp3=>?_;have s3:=Same.upd (o:=.tup [V.str "if",V.str n,V.ref p1,V.ref p2]) hp3;have s12:=s1.trans s2;refine q _ (p1::p2::(g1++g2)) _ (s12.trans s3) (.ifs (SqT.of ae) (s3 _ _ (s2 _ _ e1)) (s3 _ _ e2) ((k1.same s2).same s3) (k2.same s3)) ?_ (fun c hc=>?_)
  ·have dj:∀c∈p1::g1,c∉p2::g2:=fun c h1 h2=>by
    have ex:∃u,H1 c=some u:=by
     rcases zq4.mp h1 with z | z
     ·exact ⟨_,by rw [z];exact e1⟩
     ·obtain ⟨u,hu⟩:=k1.tracked c z;exact ⟨_,hu⟩
    obtain ⟨u,hu⟩:=ex;rw [fr2 c h2] at hu;cases hu
   have n5:=iz nd1 nd2 dj;refine (List.Perm.nodup_iff ?_).mp n5;rw [sZ];exact .cons _ List.perm_middle
  ·rcases zq4.mp hc with z | z
   ·rw [z];exact fr1 p1 Jo
   rcases zq4.mp z with z | z
   ·rw [z];exact s1.free (fr2 p2 Jo)
   rcases zq10.mp z with z | z
   ·exact fr1 c (bH _ z)
   ·exact s1.free (fr2 c (bH _ z))
 | @whl q0 a n xs rows f hq ha h1=>simp only [Stm.deep,Stm.many] at hd hm;rwa [bE];refine zAA _ _ hq rfl ?_;rwa [bE];refine aO (fun z=>absurd z Jk) (fun _=>zAA _ _ hq rfl ?_);rwa [bE];refine aO (fun _=>zAA _ _ hq rfl (zAA _ _ hq rfl ?_)) (fun z=>absurd trivial z);rwa [bE];refine zAQ xs rows f ha h1 Jn Jn fun p1 zs1 g1 H1 s1 e1 k1 nd1 fr1 p3 hp3=>?_;have s3:=Same.upd (o:=.tup [V.str "while",V.str n,V.ref p1]) hp3;exact q _ (p1::g1) _ (s1.trans s3) (.whl (SqT.of ae) (s3 _ _ e1) (k1.same s3)) nd1 fr1
theorem iC(T:Txt K mg t):∀d,FnOk P w K mg base CX0 (2 * d+1) t.f_102 t.e_102 ["row"] (fm K d)/\FnOk P w K mg base CX0 (2 * d+2) t.f_101 t.e_101 ["rows"] (eg K d)
 |0=>by
  have h0:FnOk P w K mg base CX0 (2 * 0+1) t.f_102 t.e_102 ["row"] (fm K 0):=⟨fun vs H Q E h=>by obtain ⟨_,_,_,_,_,h,_⟩:=h;omega,fun _ _ _ _ _ _ _ _ _ _ _ _ _ h=>by obtain ⟨_,_,_,_,_,h,_⟩:=h;omega⟩
  exact ⟨h0,fS T 0 h0⟩
 |d+1=>by have h1:=oh T d (iC T d).2;exact ⟨h1,fS T (d+1) h1⟩
def mt(K:W.Frag)(C:Addr)(d:Nat)(p:Addr)(a0:Addr)(b0:Addr)(r0:Addr)(wd:Int)(H:Hp)(Q:VK):Prop:=∃(dx:Addr)(ins:List Str)(oth:List Str)(xs:List V)(ss:List Stm)(f:List Addr),H p=some (.ins C dx [])/\
 H a0=some (.lst (ins.map V.str))/\H b0=some (.lst (oth.map V.str))/\H r0=some (.lst xs)/\StmsV K H xs ss f/\aY ss<d/\aJ ss<=1000/\ins.length<=1000/\oth.length<=1000/\
 ∀a b r ys g H',SameX p H H'->ProgAt K C H' p wd ins oth ss a b r ys g->(a::b::r::g).Nodup->(∀c∈a::b::r::g,H c=none)->Q .non H'
def nC(K:W.Frag)(C:Addr)(d:Nat):Sp:=fun vs H Q _=>∃(p:Addr)(a0:Addr)(b0:Addr)(r0:Addr)(wd:Int),vs=[.ref p,.int wd,.ref a0,.ref b0,.ref r0]/\mt K C d p a0 b0 r0 wd H Q
theorem uk(T:Txt K mg t)(d:Nat):FnOk P w K mg base CX0 (2 * d+3) t.f_100 t.e_100 ["self","width","ins","boxes","rows"] (nC K t.C_Program d):=by
 have G_101:=(@iC P w K mg base t T d).2;refine T.d_100.F.ok yz ∅ ?_;rintro cdv A outer s H vs Q E hr ⟨p,a0,b0,r0,wd,rfl,dx,ins,oth,xs,ss,f,hp,ha,hb,hr0,hx,hd,hm,hi,ho,q⟩;refine ⟨_,
   (XSs.h
   (ai
    (bZ (yqv 0 vl) (yqv 1 vl) rfl)
   (ai
    (bZ (yqv 0 vl) (aQ cK gl T.z_list boot_list (aa (yqv 2 vl) af)) rfl)
   (ai
    (bZ (yqv 0 vl) (ak aT (aQ cK gl T.z_list boot_list (aa (yqv 2 vl) af)) (aQ cK gl T.z_list boot_list (aa (yqv 3 vl) af))) rfl)
   (aj
    (bZ (yqv 0 vl) (aB T.d_101 G_101 hr.m (aa (yqv 4 vl) af) gl) rfl)))))),?_⟩
 rw [show start _ [V.ref p,V.int wd,V.ref a0,V.ref b0,V.ref r0]=[some (.ref p),some (.int wd),some (.ref a0),some (.ref b0),some (.ref r0)] from rfl];rwa [bE];have na:a0≠p:=kc ha hp (by intro z;cases z);have nb:b0≠p:=kc hb hp (by intro z;cases z);have nr:r0≠p:=kc hr0 hp (by intro z;cases z);refine fB hp T.c_Program.cl T.n_Program_width Jo ?_;rw [c8 Jp,sQ];obtain ⟨H1,hH1⟩:∃H1,H1=upd H p (.ins t.C_Program dx [("width",V.int wd)]):=⟨_,rfl⟩
 rw [<- hH1];have e1:H1 p=some (.ins t.C_Program dx [("width",V.int wd)]):=by rw [hH1];exact ae
 have s1:SameX p H H1:=by rw [hH1];exact SameX.upd
 have t1:TSame H H1:=by rw [hH1];exact TSame.updI hp
 rwa [bE];refine zn _ (.inl (SqL.of (s1 _ _ ha na))) fun l1 hl1=>?_;have np1:p≠l1:=aA e1 hl1;refine fB (by rw [aE np1];exact e1) T.c_Program.cl T.n_Program_ins Jo ?_;rw [c8 Jl];obtain ⟨H2,hH2⟩:∃H2,H2=upd (upd H1 l1 (.lst (ins.map V.str))) p (.ins t.C_Program dx ([(("width":Str),V.int wd)]++[(("ins":Str),V.ref l1)])):=⟨_,rfl⟩
 rw [<- hH2];have e2:H2 p=some (.ins t.C_Program dx ([(("width":Str),V.int wd)]++[(("ins":Str),V.ref l1)])):=by rw [hH2];exact ae
 have s2:SameX p H1 H2:=by rw [hH2];exact (SameX.of (Same.upd hl1)).trans SameX.upd
 have k2:H2 l1=some (.lst (ins.map V.str)):=by rw [hH2,aE np1.symm];exact ae
 have t2:TSame H1 H2:=by rw [hH2];exact (Same.upd hl1).ts.trans (TSame.updI (by rw [aE np1];exact e1))
 have s02:=s1.trans s2;rwa [bE];refine zn _ (.inl (SqL.of (s02 _ _ ha na))) fun l2 hl2=>?_;have s3:=Same.upd (o:=.lst (ins.map V.str)) hl2;refine zn _ (.inl (SqL.of (s3 _ _ (s02 _ _ hb nb)))) fun l3 hl3=>?_;have s4:=s3.trans (Same.upd (o:=.lst (oth.map V.str)) hl3);refine zAC _ _ (by rw [aE (aA ae hl3)];exact ae) ae (by rw [zq3];simp only [List.length_map];omega) fun l4 hl4=>?_;have s5:=s4.trans (Same.upd (o:=.lst (ins.map V.str++oth.map V.str)) hl4);refine fB (s5 _ _ e2) T.c_Program.cl T.n_Program_boxes Jo ?_;rw [c8 Jl];have np4:p≠l4:=aA (s4 _ _ e2) hl4;obtain ⟨H3,hH3⟩:∃H3,H3=upd (upd (upd (upd H2 l2 (.lst (ins.map V.str))) l3 (.lst (oth.map V.str))) l4 (.lst (ins.map V.str++oth.map V.str))) p (.ins t.C_Program dx ([(("width":Str),V.int wd)]++[(("ins":Str),V.ref l1)]++[(("boxes":Str),V.ref l4)])):=⟨_,rfl⟩
 rw [<- hH3];have e3:H3 p=some (.ins t.C_Program dx ([(("width":Str),V.int wd)]++[(("ins":Str),V.ref l1)]++[(("boxes":Str),V.ref l4)])):=by rw [hH3];exact ae
 have s23:SameX p H2 H3:=by rw [hH3];exact (SameX.of s5).trans SameX.upd
 have k4:H3 l4=some (.lst (ins.map V.str++oth.map V.str)):=by rw [hH3,aE np4.symm];exact ae
 have t3:TSame H2 H3:=by rw [hH3];exact s5.ts.trans (TSame.updI (s5 _ _ e2))
 have s03:=s02.trans s23;rwa [bE];have pf:p∉f:=fun z=>by obtain ⟨zs,hz⟩:=hx.tracked p z;rw [hp] at hz;cases hz
 refine zAQ xs ss f (s03 _ _ hr0 nr) (hx.keep ((t1.trans t2).trans t3) (fun c hc o e=>s03 c o e (fun z=>pf (by rw [<- z];exact hc)))) hd hm fun r ys g H4 s34 e4 k5 nd fr=>?_;refine fB (s34 _ _ e3) T.c_Program.cl T.n_Program_rows Jo ?_;rw [c8 Jl];have pg:p∉r::g:=fun z=>by rw [fr p z] at e3;cases e3
 have npr:r≠p:=fun z=>pg (by rw [z];exact bV);have nl1:l1≠p:=np1.symm;have nl4:l4≠p:=np4.symm;have n14:l1≠l4:=aA (s4 _ _ k2) hl4;have f1:H l1=none:=s1.free e1 hl1;have f4:H l4=none:=s02.free e2 (s4.free hl4);have k3:H3 l1=some (.lst (ins.map V.str)):=s23 _ _ k2 nl1;refine q l1 l4 r ys g _ (s03.trans ((SameX.of s34).trans SameX.upd)) ⟨⟨dx,ae⟩,?_,?_,?_,?_⟩ ?_ ?_
 ·rw [aE nl1];exact s34 _ _ k3
 ·rw [aE nl4,bI];exact s34 _ _ k4
 ·rw [aE npr];exact e4
 ·exact k5.keep (TSame.updI (s34 _ _ e3)) (Kept.upd fun z=>pg (bH _ z))
 ·have a1:l1∉r::g:=fun z=>by rw [fr l1 z] at k3;cases k3
  have a4:l4∉r::g:=fun z=>by rw [fr l4 z] at k4;cases k4
  refine zq27.mpr ⟨fun z=>?_,zq27.mpr ⟨a4,nd⟩⟩;rcases zq4.mp z with z | z
  ·exact n14 z
  ·exact a1 z
 ·intro c hc;rcases zq4.mp hc with z | hc
  ·rw [z];exact f1
  rcases zq4.mp hc with z | hc
  ·rw [z];exact f4
  exact s03.free e3 (fr c hc)
theorem mQ:∀c,c<128->(!(Builtin.Str.occurrences LETS ⟨#[c]⟩ 0 LETS.length 1).isEmpty)=decide (97<=c/\c<=122):=by decide +kernel
theorem tX:∀c,c<128->(!(Builtin.Str.occurrences FIGS ⟨#[c]⟩ 0 FIGS.length 1).isEmpty)=decide (48<=c/\c<=57):=by decide +kernel
def iM:Sp:=fun vs H Q _=>∃x:Str,vs=[.str x]/\fZ x=true/\x.length<=1000/\∀H',Same H H'->Q (.bl (aX x)) H'
theorem cX{x:Str}{H:Hp}{Q:VK}{E:XK}:iM [.str x] H Q E=(fZ x=true/\x.length<=1000/\∀H',Same H H'->Q (.bl (aX x)) H'):=propext ⟨by rintro ⟨_,e,q⟩;cases e;exact q,fun q=>zn _ rfl q⟩
theorem oJ(T:Txt K mg t):FnOk P w K mg base CX0 2 t.f_108 t.e_108 ["word"] iM:=by
 refine T.d_108.F.ok yD ∅ ?_;rintro cdv A outer s H vs Q E hr ⟨x,rfl,ha,hl,q⟩;refine ⟨_,
   (XSs.h
   (aj
    (av (fu (iQ jv jv ac (ax eT gl T.z_len PySem.boot_len (aa (yqv 0 vl) af)) (bU (v:=.int 6) gl T.g_LONGEST_NAME ⟨_,rfl⟩)) (fv (ax (jK rfl) gl T.z_all boot_all (aa (bM (tns:=["sign"]) (cns:=[]) (ci:=[]) rfl (CompSc.of Jl) (gu (yqv 0 vl)) (fun _=>(aK (i:=1) (show List.Nodup [(".0":Str),("sign":Str)] by decide +kernel) rfl ll (Or.inr Jl))) (fun _=>cq) (fun _=>(cE iF (yqv 1 vl) (bU (v:=.str "abcdefghijklmnopqrstuvwxyz") gl T.g_LETTERS ⟨_,rfl⟩) rfl))) af))))))),?_⟩
 rw [show start _ [V.str x]=[some (.str x)] from rfl];rwa [];unfold hZ;rwa [];refine zAD x rfl (by rw [zq3];omega) ?_
 by_cases h1:1<=x.length
 ·rw [zq1 (zq5 Jn)]
  by_cases h2:x.length<=6
  ·rw [zq1 (zq5 Jn)];refine zAD x rfl ha fun acc hacc bk=>?_;refine mH (fun c=>.bl (decide (97<=c/\c<=122))) (by show x.length<=_;rw [zq3];omega) hacc (fun c H' Q' hc h=>?_) (zn (x.cps.toList.map fun c=>decide (97<=c/\c<=122)) (SqL.of (by rw [ae,mf];rfl)) ?_)
   ·rwa [];have z:=mQ c (gw ha hc);unfold LETS at z;rw [z];exact h
   ·have z:=q _ (Same.upd (o:=.lst (x.cps.toList.map fun c=>V.bl (decide (97<=c/\c<=122)))) hacc);unfold aX at z;rw [zq5 h1,zq5 h2,i9,i9] at z;rw [List.all_map];exact z
  ·rw [zq0 (by simp;omega)];have z:=q H (Same.refl _);unfold aX at z;rw [zq6 h2,pF,dW] at z;exact z
 ·rw [zq0 (by simp;omega)];have z:=q H (Same.refl _);unfold aX at z;rw [zq6 h1,dW,dW] at z;exact z
def kr:Sp:=fun vs H Q _=>∃x:Str,vs=[.str x]/\fZ x=true/\x.length<=1000/\∀H',Same H H'->Q (.bl (c7 x)) H'
theorem ny{x:Str}{H:Hp}{Q:VK}{E:XK}:kr [.str x] H Q E=(fZ x=true/\x.length<=1000/\∀H',Same H H'->Q (.bl (c7 x)) H'):=propext ⟨by rintro ⟨_,e,q⟩;cases e;exact q,fun q=>zn _ rfl q⟩
theorem ke(T:Txt K mg t):FnOk P w K mg base CX0 2 t.f_109 t.e_109 ["word"] kr:=by
 refine T.d_109.F.ok yE ∅ ?_;rintro cdv A outer s H vs Q E hr ⟨x,rfl,ha,hl,q⟩;refine ⟨_,
   (XSs.h
   (ai
    (aD (aW (bN (am aU (yqv 0 vl) ao (au _)) (c4 (ce (iR (ax (jK rfl) gl T.z_all boot_all (aa (bM (tns:=["sign"]) (cns:=[]) (ci:=[]) rfl (CompSc.of Jl) (gu (yqv 0 vl)) (fun _=>(aK (i:=1) (show List.Nodup [(".0":Str),("sign":Str)] by decide +kernel) rfl ll (Or.inr Jl))) (fun _=>cq) (fun _=>(cE iF (yqv 1 vl) (bU (v:=.str "0123456789") gl T.g_FIGURES ⟨_,rfl⟩) rfl))) af)) (fun _=>rfl))))))
     (aj
      (av d7))
     ay)
   (aj
    (av (z4 (cE aU (yqv 0 vl) ao (au _)) (fv (cE dP (aw gG (yqv 0 vl) ac) ao (au _)))))))),?_⟩
 rw [show start _ [V.str x]=[some (.str x)] from rfl];rwa []
 by_cases e0:x=""
 ·rw [zq1 (zq5 e0),zq1 trivial];have z:=q H (Same.refl _);unfold c7 at z;rw [zq6 (fun z=>z e0),dW,dW] at z;exact z
 ·rw [zq0 (by simpa using e0)];refine zAD x rfl ha fun acc hacc bk=>?_;have t1:=Same.upd (o:=.lst (x.cps.toList.map fun c=>V.bl (decide (48<=c/\c<=57)))) hacc;refine mH (fun c=>.bl (decide (48<=c/\c<=57))) (by show x.length<=_;rw [zq3];omega) hacc (fun c H' Q' hc h=>?_) (zn (x.cps.toList.map fun c=>decide (48<=c/\c<=57)) (SqL.of (by rw [ae,mf];rfl)) (zn _ rfl ?_))
  ·rwa [];have z:=tX c (gw ha hc);unfold FIGS at z;rw [z];exact h
  ·have z:=q _ t1;unfold c7 at z;rw [zq5 e0,i9] at z;rw [List.all_map];have ea:(x.cps.toList.all (id ∘ fun c=>decide (48<=c/\c<=57)))=x.cps.toList.all fun c=>decide (48<=c/\c<=57):=rfl;rw [ea]
   cases hb:x.cps.toList.all fun c=>decide (48<=c/\c<=57) with
   |false=>
    rw [hb,dW] at z;rw [zq1 Jm];exact z
   |true=>
    rw [hb,i9] at z;rw [zq0 Jm]
    by_cases e1:x="0"
    ·rw [zq1 (zq5 e1)];rw [zq5 e1,sL] at z;exact z
    ·rw [zq0 (by simpa using e1)];rw [zq6 e1,t9] at z
     cases hx:x.cps.toList with
     |nil=>exact absurd (GQ.toList_inj (by rw [hx];decide +kernel)) e0
     |cons c r=>
      have h0:x.cps[0]?=some c:=by rw [<- v2,hx];rfl
      refine ⟨by rw [zq3];omega,zn c (bt (j:=0) rfl) ?_⟩;have ez:decide (x.cps[0]?≠some 48)=! decide ((⟨#[c]⟩:Str)=Str.ofString "0"):=by
       rw [h0]
       by_cases e:c=48
       ·subst e;decide +kernel
       ·rw [zq5 (show some c≠some 48 from fun z=>e (Option.some.inj z)),zq6 (show ¬(⟨#[c]⟩:Str)=Str.ofString "0" from fun z=>e ?_)]
        ·rfl
        ·have:=congrArg (fun s:Str=>s.cps[0]?) z;exact Option.some.inj (this.trans Jk)
      rw [ez,hx] at z;exact z
def eJ:Sp:=fun vs H Q _=>∃w:Int,vs=[.int w]/\0<=w/\w<=8/\Q (.int (2 ^ w.toNat)) H
theorem fk{w:Int}{H:Hp}{Q:VK}{E:XK}:eJ [.int w] H Q E=(0<=w/\w<=8/\Q (.int (2 ^ w.toNat)) H):=propext ⟨by rintro ⟨_,e,q⟩;cases e;exact q,by intro q;exact zn w rfl q⟩
theorem i7(T:Txt K mg t):FnOk P w K mg base CX0 1 t.f_103 t.e_103 ["width"] eJ:=by
 refine T.d_103.F.ok sc_103 ∅ ?_;rintro cdv A outer s H vs Q E hr ⟨w,rfl,h0,h8,q⟩;refine ⟨_,
   (XSs.h
   (ai
    (ar (i:=1) sc_103.nd rfl ll ac)
   (ai
    (cc PassesOwn.never rfl (bT gl T.z_range (aa (yqv 0 vl) af)) (aK (i:=2) sc_103.nd rfl ll)
     (aj
      (ar (i:=1) sc_103.nd rfl ll (ak cP (yqv 1 vl) ac))))
   (aj
    (av (yqv 1 vl)))))),?_⟩
 rw [show start _ [V.int w]=[some (.int w),none,none] from rfl];rwa [];refine zAB Jn Jn (fD (fun i σ H'=>H'=H/\∃b,σ=[some (.int w),some (.int (2 ^ i)),b]) ⟨rfl,none,rfl⟩ ?_ ?_)
 ·rintro i σ H2 hi ⟨rfl,b,rfl⟩;rwa [];exact ⟨.inr ⟨Jm,Jm⟩,_,by rw [Int.pow_succ]⟩
 ·rintro σ H2 ⟨rfl,b,rfl⟩;rwa [];exact q
variable {C' X dx:Addr} {E:XK} {Q:VK}
def PtV(H:Hp)(L:Addr)(tss:List (List Str)):Prop:=∃as:List Addr,H L=some (.lst (as.map V.ref))/\Paired (fun a ts=>H a=some (.lst (ts.map V.str))) as tss
theorem PtV.mv{H H':Hp}{L:Addr}{tss:List (List Str)}(h:PtV H L tss)(s:∀c xs,H c=some (.lst xs)->H' c=some (.lst xs)):PtV H' L tss:=by obtain ⟨as,h1,h2⟩:=h;exact zn as (s _ _ h1) (h2.mono fun a ts e=>s _ _ e)
def d0(L:Addr)(wm:Int)(N:Addr)(pl mn:Int):List (Str×V):=[("parted",.ref L),("words_many",.int wm),("names",.ref N),("place",.int pl),("statements_many",.int mn)]
structure RdH(C:Addr)(H:Hp)(p L N:Addr)(tss:List (List Str))(ns:List Str)(wm:Int)(pl mn:Nat):Prop where
 ob:∃dx,H p=some (.ins C dx (d0 L wm N pl mn))
 pt:PtV H L tss
 nm:H N=some (.lst (ns.map V.str))
section
variable {C p L N:Addr} {H H':Hp} {tss:List (List Str)} {ns:List Str} {wm:Int} {pl mn:Nat}
theorem SameX.lst{fs:List (Str×V)}(s:SameX p H H')(hp:H p=some (.ins C' dx fs)):∀c xs,H c=some (.lst xs)->H' c=some (.lst xs):=fun c xs e=>s c _ e fun z=>by rw [z,hp] at e;cases e
theorem SameX.ts{fs:List (Str×V)}(s:SameX p H H')(hp:H p=some (.ins C' dx fs)):TSame H H':=⟨fun b xs e=>s b _ e fun z=>(by rw [z,hp] at e;cases e),fun b o u e=>s b _ e fun z=>(by rw [z,hp] at e;cases e)⟩
theorem SameX.stms{K:W.Frag}{fs:List (Str×V)}{xs:List V}{ss:List Stm}{f:List Addr}(s:SameX p H H')(hp:H p=some (.ins C' dx fs))(h:StmsV K H xs ss f):StmsV K H' xs ss f:=
 h.keep (SameX.ts s hp) fun c hc o e=>s c o e fun z=>by obtain ⟨zs,hz⟩:=h.tracked c hc;rw [z,hp] at hz;cases hz
theorem RdH.mv(h:RdH C H p L N tss ns wm pl mn)(s:Same H H'):RdH C H' p L N tss ns wm pl mn:=⟨let ⟨dx,e⟩:=h.ob;⟨dx,s _ _ e⟩,h.pt.mv fun c xs e=>s _ _ e,s _ _ h.nm⟩
theorem fI{pl mn x:Int}:cW "place" (.int x) (d0 L wm N pl mn)=d0 L wm N x mn:=by kernel_rfl
theorem rk{pl mn x:Int}:cW "statements_many" (.int x) (d0 L wm N pl mn)=d0 L wm N pl x:=by kernel_rfl
theorem RdH.place(h:RdH C H p L N tss ns wm pl mn)(hp:H p=some (.ins C dx (d0 L wm N pl mn))):RdH C (upd H p (.ins C dx (d0 L wm N ((pl:Int)+1) mn))) p L N tss ns wm (pl+1) mn:=
 ⟨⟨dx,by rw [ae];rfl⟩,h.pt.mv (SameX.lst SameX.upd hp),SameX.lst SameX.upd hp _ _ h.nm⟩
theorem RdH.many(h:RdH C H p L N tss ns wm pl mn)(hp:H p=some (.ins C dx (d0 L wm N pl mn))):RdH C (upd H p (.ins C dx (d0 L wm N pl ((mn:Int)+1)))) p L N tss ns wm pl (mn+1):=
 ⟨⟨dx,by rw [ae];rfl⟩,h.pt.mv (SameX.lst SameX.upd hp),SameX.lst SameX.upd hp _ _ h.nm⟩
end
def b7(tss:List (List Str))(k:Nat):List Str:=(tss[k]?).getD []
def mx(C p:Addr)(H:Hp)(Q:VK):Prop:=∃(L N:Addr)(tss:List (List Str)) (ns:List Str) (wm:Int) (pl mn:Nat),RdH C H p L N tss ns wm pl mn/\∀a H',Same H H'->H' a=some (.lst ((b7 tss pl).map V.str))->Q (.ref a) H'
def nG(C:Addr):Sp:=fun vs H Q _=>∃p:Addr,vs=[.ref p]/\mx C p H Q
theorem fK{C p:Addr}{H:Hp}:nG C [.ref p] H Q E=mx C p H Q:=propext ⟨by rintro ⟨_,e,q⟩;cases e;exact q,fun q=>zn _ rfl q⟩
def pX(C X p:Addr)(n:Str)(H:Hp)(Q:VK)(E:XK):Prop:=∃(L N:Addr)(tss:List (List Str)) (ns:List Str) (wm:Int) (pl mn:Nat),RdH C H p L N tss ns wm pl mn/\shW n/\(n∈ns->Q (.str n) H)/\(n∉ns->E (.ref X) none H)
def rS(C X:Addr):Sp:=fun vs H Q E=>∃(p:Addr)(n:Str),vs=[.ref p,.str n]/\pX C X p n H Q E
theorem gW{C p:Addr}{n:Str}{H:Hp}:rS C X [.ref p,.str n] H Q E=pX C X p n H Q E:=propext ⟨by rintro ⟨_,_,e,q⟩;cases e;exact q,fun q=>zAE _ _ rfl q⟩
def q9(C X p:Addr)(x:Str)(H:Hp)(Q:VK)(E:XK):Prop:=∃(L N:Addr)(tss:List (List Str)) (ns:List Str) (most pl mn:Nat),RdH C H p L N tss ns most pl mn/\J3.okX x/\most<=256/\(∀o H',J3.opF ns most x=some o->Same H H'->Q o.v H')/\(J3.opF ns most x=none->∀H',Same H H'->E (.ref X) none H')
def rV(C X:Addr):Sp:=fun vs H Q E=>∃(p:Addr)(x:Str),vs=[.ref p,.str x]/\q9 C X p x H Q E
theorem iG{C p:Addr}{x:Str}{H:Hp}:rV C X [.ref p,.str x] H Q E=q9 C X p x H Q E:=propext ⟨by rintro ⟨_,_,e,q⟩;cases e;exact q,fun q=>zAE _ _ rfl q⟩
def mB(C X p:Addr)(H:Hp)(Q:VK)(E:XK):Prop:=∃(L N:Addr)(tss:List (List Str)) (ns:List Str) (wm:Int) (pl mn:Nat),RdH C H p L N tss ns wm pl mn/\(b7 tss pl=[("end":Str)]->∀H',SameX p H H'->RdH C H' p L N tss ns wm (pl+1) mn->Q .non H')/\(b7 tss pl≠[("end":Str)]->∀H',Same H H'->E (.ref X) none H')
def nJ(C X:Addr):Sp:=fun vs H Q E=>∃p:Addr,vs=[.ref p]/\mB C X p H Q E
theorem rF{C p:Addr}{H:Hp}:nJ C X [.ref p] H Q E=mB C X p H Q E:=propext ⟨by rintro ⟨_,e,q⟩;cases e;exact q,fun q=>zn _ rfl q⟩
theorem fg{x:Str}(h:J3.okX x):shW x:=⟨by have:=h.2.2.1;omega,fun c hc=>by have:=gw h.1 hc;omega⟩
theorem fc(T:Txt K mg t):FnOk P w K mg base CX0 1 t.f_112 t.e_112 ["self"] (nG t.C_RowReader):=by
 refine T.d_112.F.ok yG ∅ ?_;rintro cdv A outer s H vs Q E hr ⟨p,rfl,L,N,tss,ns,wm,pl,mn,hR,q⟩;refine ⟨_,
   (XSs.h
   (aj
    (av (pk (am cy (c9 (yqv 0 vl) rfl) (ax aq gl T.z_len PySem.boot_len (aa (c9 (yqv 0 vl) rfl) af)) (au _)) (aw aF (c9 (yqv 0 vl) rfl) (c9 (yqv 0 vl) rfl)) (aH af))))),?_⟩
 rw [show start _ [V.ref p]=[some (.ref p)] from rfl];rwa [];obtain ⟨dx,hp⟩:=hR.ob;obtain ⟨as,hL,hA⟩:=id hR.pt;have la:=hA.length;refine g8 hp T.c_RowReader.cl T.n_RowReader_place rfl ?_;refine g8 hp T.c_RowReader.cl T.n_RowReader_parted rfl ?_;refine zAA L _ rfl (.inl (SqL.of hL)) ?_;rwa [];rw [zq2,la];refine aO (fun h=>?_) (fun h=>?_)
 ·have hlt:pl<tss.length:=by omega
  obtain ⟨a,ha,hf⟩:=L2.Paired.getR hA (dI hlt);refine g8 hp T.c_RowReader.cl T.n_RowReader_parted rfl ?_;refine g8 hp T.c_RowReader.cl T.n_RowReader_place rfl ?_;refine zAS L _ _ _ rfl rfl (SqL.of hL) (bt (by rw [cA,ha];rfl)) (q a H (Same.refl _) ?_);unfold b7;rw [dI hlt];exact hf
 ·refine fun a ha=>q a _ (Same.upd ha) ?_;unfold b7;rw [sP Jn,ae];rfl
theorem lF(T:Txt K mg t):FnOk P w K mg base (CX1 P w) 1 t.f_121 t.e_121 ["self","word"] (rS t.C_RowReader t.X_NoProgram):=by
 refine T.d_121.F.okX yL ∅ ?_;rintro cdv A outer s H vs Q E hr ⟨p,n,rfl,L,N,tss,ns,wm,pl,mn,hR,hn,q,e⟩;refine ⟨_,
   (XSs.h
   (ai
    (aD (am bX (yqv 1 vl) (c9 (yqv 0 vl) rfl) rfl)
     (aj
      (bq bF rfl T.x_NoProgram T.q_NoProgram (aa (dS hr.gd (g9 (n:=8) Jm hr) Jk (yqv 1 vl)) af) gl))
     ay)
   (aj
    (av (yqv 1 vl))))),?_⟩
 rw [show start _ [V.ref p,V.str n]=[some (.ref p),some (.str n)] from rfl];rwa [];obtain ⟨dx,hp⟩:=hR.ob;refine g8 hp T.c_RowReader.cl T.n_RowReader_names rfl ?_;refine zAK N _ rfl (.inl (SqL.of hR.nm)) rfl cx (zn _ rfl ?_);rw [cC]
 by_cases h:n∈ns
 ·rw [zq5 h,zq0 Jm];exact q h
 ·rw [zq6 h,zq1 Jm];exact ⟨.inl (zn _ rfl hn),e h⟩
theorem qU(T:Txt K mg t):FnOk P w K mg base (CX1 P w) 3 t.f_120 t.e_120 ["self","word"] (rV t.C_RowReader t.X_NoProgram):=by
 have G_109:=@ke P w K mg base t T;have G_121:=@lF P w K mg base t T;refine T.d_120.F.okX yK ∅ ?_;rintro cdv A outer s H vs Q E hr ⟨p,x,rfl,L,N,tss,ns,most,pl,mn,hR,hx,hm,q,e⟩;refine ⟨_,
   (XSs.h
   (ai
    (aD (ce (cO (aB T.d_109 G_109 hr.m (aa (yqv 1 vl) af) gl)))
     (aj
      (av (b4 T.c_RowReader.cl T.d_121 G_121 hr.m ba (yqv 0 vl) (aa (yqv 1 vl) af))))
     ay)
   (ai
    (aD (am md (aQ da gl T.z_int boot_int (aa (yqv 1 vl) af)) (c9 (yqv 0 vl) rfl) (au _))
     (aj
      (bq bF rfl T.x_NoProgram T.q_NoProgram (aa (dS hr.gd (g9 (n:=8) Jm hr) Jk (yqv 1 vl)) af) gl))
     ay)
   (aj
    (av (aQ da gl T.z_int boot_int (aa (yqv 1 vl) af))))))),?_⟩
 rw [show start _ [V.ref p,V.str x]=[some (.ref p),some (.str x)] from rfl];rwa [ny,gW];refine zAB hx.1 (by have:=hx.2.2.1;omega) fun H1 s1=>?_;have hR1:=hR.mv s1;obtain ⟨dx,hp⟩:=hR1.ob
 cases hnb:c7 x with
 |false=>
  rw [zq1 Jm];refine bi hp rfl (zBG L N tss ns _ pl mn hR1 (fg hx) (fun h=>q (.box x) _ ?_ s1) fun h=>e ?_ _ s1)
  ·unfold J3.opF;rw [zq0 (by rw [hnb];decide),zq1 h]
  ·unfold J3.opF;rw [zq0 (by rw [hnb];decide),zq0 h]
 |true=>
  rw [zq0 Jm];obtain ⟨h1,h2⟩:=J3.jd hnb (hx.2.2.2 hnb);have h3:J3.opF ns most x=if J3.bJ x<most then some (.word (J3.bJ x:Nat)) else none:=by unfold J3.opF;rw [zq1 hnb]
  refine zAF (J3.bJ x:Nat) (by rw [h1]) Jn Jn ?_;refine g8 hp T.c_RowReader.cl T.n_RowReader_words_many rfl ?_;rwa []
  by_cases hlt:J3.bJ x<most
  ·rw [zq0 (by simpa using hlt)];exact zAF (J3.bJ x:Nat) (by rw [h1]) Jn Jn (q (.word (J3.bJ x:Nat)) _ (by rw [h3,zq1 hlt]) s1)
  ·rw [zq1 (by simp;omega)];exact ⟨.inl (zn _ rfl (fg hx)),e (by rw [h3,zq0 hlt]) _ s1⟩
theorem n6(T:Txt K mg t):FnOk P w K mg base (CX1 P w) 2 t.f_119 t.e_119 ["self"] (nJ t.C_RowReader t.X_NoProgram):=by
 have G_112:=@fc P w K mg base t T;refine T.d_119.F.okX yJ ∅ ?_;rintro cdv A outer s H vs Q E hr ⟨p,rfl,L,N,tss,ns,wm,pl,mn,hR,q,e⟩;refine ⟨_,
   (XSs.h
   (ai
    (aD (am (lK (n:=0) (g9 Jm hr)) (cY T.c_RowReader.cl T.d_112 G_112 hr.m (yqv 0 vl)) (aH (aa ao af)) (au _))
     (aj
      (bq bF rfl T.x_NoProgram T.q_NoProgram (aa ao af) gl))
     ay)
   (aj
    (bZ (yqv 0 vl) (ak aL (c9 (yqv 0 vl) rfl) ac) rfl)))),?_⟩
 rw [show start _ [V.ref p]=[some (.ref p)] from rfl];rwa [fK];obtain ⟨dx,hp⟩:=hR.ob;refine bi hp rfl ?_;refine zAZ L N tss ns wm pl mn hR fun a H1 s1 ha p1 hp1=>?_;have s2:=s1.trans (Same.upd (o:=.lst [V.str (Str.ofString "end")]) hp1);have z:=ef (K:=K) (n:=0) (xs:=b7 tss pl) (ys:=[("end":Str)]) (SqL.of (Same.upd (o:=.lst [V.str (Str.ofString "end")]) hp1 _ _ ha)) (SqL.of ae);refine zn _ z (zn _ rfl ?_);have hR2:=hR.mv s2;have hp2:=s2 _ _ hp;generalize upd H1 p1 (.lst [V.str (Str.ofString "end")])=H2 at s2 hR2 hp2 ⊢
 by_cases hE:b7 tss pl=[("end":Str)]
 ·rw [zq5 hE,zq0 Jm];refine g8 hp2 T.c_RowReader.cl T.n_RowReader_place rfl ?_;rwa [];refine fB hp2 T.c_RowReader.cl T.n_RowReader_place (show 5<1000 by decide) ?_;rw [fI];exact q hE _ ((SameX.of s2).trans SameX.upd) (hR2.place hp2)
 ·rw [zq6 hE,zq1 Jm];exact e hE _ s2
theorem zw{α:Type}{l:List α}(h:l.length=3):∃a b c,l=[a,b,c]:=by rcases l with _ | ⟨a,_ | ⟨b,_ | ⟨c,_ | ⟨d,l⟩⟩⟩⟩<;>simp at h ⊢
theorem zx{α:Type}{l:List α}(h:l.length=5):∃a b c d e,l=[a,b,c,d,e]:=by rcases l with _ | ⟨a,_ | ⟨b,_ | ⟨c,_ | ⟨d,_ | ⟨e,_ | ⟨f,l⟩⟩⟩⟩⟩⟩<;>simp at h ⊢
theorem l8{α:Type}{l:List α}(h:l.length=2):∃a b,l=[a,b]:=by rcases l with _ | ⟨a,_ | ⟨b,_ | ⟨c,l⟩⟩⟩<;>simp at h ⊢
theorem ml{ns:List Str}{most:Nat}{ts:List Str}(h3:ts.length≠3)(h5:ts.length≠5):J3.asF ns most ts=none:=by
 unfold J3.asF
 split
 ·exact absurd rfl h3
 ·exact absurd rfl h5
 ·rfl
theorem jB{ns:List Str}{most:Nat}{n:Str}{r:List Str}(h:n∉ns):J3.asF ns most (n::r)=none:=by
 unfold J3.asF
 split
 ·next e=>cases e;rw [zq0 h]
 ·next e=>cases e;rw [zq0 (fun z=>h z.1)]
 ·rfl
def pU(K:W.Frag)(C X p a:Addr)(H:Hp)(Q:VK)(E:XK):Prop:=∃(L N:Addr)(tss:List (List Str)) (ns:List Str) (most pl mn:Nat) (ts:List Str),RdH C H p L N tss ns most pl mn/\most<=256/\H a=some (.lst (ts.map V.str))/\J3.okT ts/\(∀dd q H',J3.asF ns most ts=some dd->dd.fine->Same H H'->SqT K H' q dd.vs->Q (.ref q) H')/\(J3.asF ns most ts=none->∀H',Same H H'->E (.ref X) none H')
def rQ(K:W.Frag)(C X:Addr):Sp:=fun vs H Q E=>∃(p a:Addr),vs=[.ref p,.ref a]/\pU K C X p a H Q E
theorem zV{K:W.Frag}{C X p a:Addr}{H:Hp}{Q:VK}{E:XK}:rQ K C X [.ref p,.ref a] H Q E=pU K C X p a H Q E:=propext ⟨by rintro ⟨_,_,e,q⟩;cases e;exact q,fun q=>zAE _ _ rfl q⟩
def jH(C p L N:Addr)(wd:Int)(H:Hp)(Q:VK):Prop:=∃(dx:Addr)(tss:List (List Str)) (ns:List Str),H p=some (.ins C dx [])/\PtV H L tss/\H N=some (.lst (ns.map V.str))/\0<=wd/\wd<=8/\
 ∀H',SameX p H H'->RdH C H' p L N tss ns ((2 ^ wd.toNat:Nat):Int) 0 0->Q .non H'
def kD(C:Addr):Sp:=fun vs H Q _=>∃(p L N:Addr)(wd:Int),vs=[.ref p,.ref L,.int wd,.ref N]/\jH C p L N wd H Q
theorem uM{C p L N:Addr}{wd:Int}{H:Hp}{Q:VK}{E:XK}:kD C [.ref p,.ref L,.int wd,.ref N] H Q E=jH C p L N wd H Q:=propext ⟨by rintro ⟨_,_,_,_,e,q⟩;cases e;exact q,fun q=>zAO _ _ _ _ rfl q⟩
theorem de{ts:List Str}(h:J3.okT ts):ts.length<=100/\∀t∈ts,shW t:=⟨by have:=h.2.1;omega,fun t ht=>fg (h.2.2 t ht)⟩
theorem xj(T:Txt K mg t):FnOk P w K mg base (CX1 P w) 4 t.f_115 t.e_115 ["self","words"] (rQ K t.C_RowReader t.X_NoProgram):=by
 have G_121:=@lF P w K mg base t T;have G_120:=@qU P w K mg base t T;refine T.d_115.F.okX sc_115 ∅ ?_;rintro cdv A outer s H vs Q E hr ⟨p,a,rfl,L,N,tss,ns,most,pl,mn,ts,hR,hm,ha,hok,q,e⟩;refine ⟨_,
   (XSs.h
   (ai
    (ar (i:=2) sc_115.nd rfl ll (b4 T.c_RowReader.cl T.d_121 G_121 hr.m ba (yqv 0 vl) (aa (aw aF (yqv 1 vl) ac) af)))
   (ai
    (aD (am aU (ax aq gl T.z_len PySem.boot_len (aa (yqv 1 vl) af)) ac (au _))
     (aj
      (av (bb (aa ao (aa (yqv 2 vl) (aa (b4 T.c_RowReader.cl T.d_120 G_120 hr.m ba (yqv 0 vl) (aa (aw aF (yqv 1 vl) ac) af)) af))))))
     ay)
   (ai
    (aD (aW (bc (am aU (ax aq gl T.z_len PySem.boot_len (aa (yqv 1 vl) af)) ac (au _)) (b9 (am cS (aw aF (yqv 1 vl) ac) (bU (v:=.ref t.O_OPS) gl T.g_OPS rfl) rfl))))
     (aj
      (av (bb (aa (aw aF (yqv 1 vl) ac) (aa (yqv 2 vl) (aa (b4 T.c_RowReader.cl T.d_120 G_120 hr.m ba (yqv 0 vl) (aa (aw aF (yqv 1 vl) ac) af)) (aa (b4 T.c_RowReader.cl T.d_120 G_120 hr.m ba (yqv 0 vl) (aa (aw aF (yqv 1 vl) ac) af)) af)))))))
     ay)
   (aj
    (bq bF rfl T.x_NoProgram T.q_NoProgram (aa (dS hr.gd (g9 (n:=8) Jm hr) Jk (yqv 1 vl)) af) gl)))))),?_⟩
 rw [show start _ [V.ref p,V.ref a]=[some (.ref p),some (.ref a),none] from rfl];obtain ⟨dx,hp⟩:=hR.ob;rwa [gW,iG];obtain ⟨n,r,rfl⟩:∃n r,ts=n::r:=by
  cases ts with
  |nil=>exact absurd rfl hok.1
  |cons n r=>exact zAJ n r rfl
 refine bi hp rfl (zAA _ _ (SqL.of ha) (bt (j:=0) rfl) ?_);rw [gW];refine zBG L N tss ns _ pl mn hR (fg (hok.2.2 n (bV ..))) (fun hn=>?_) fun hn=>e (jB hn) _ (Same.refl _);refine zn _ (.inl (SqL.of ha)) ?_;rw [zq2]
 by_cases h3:(n::r).length=3
 ·rw [h3,zq1 Jm];obtain ⟨n',u,x,z⟩:=zw h3
  cases z
  have eA:J3.asF ns most [n,u,x]=(J3.opF ns most x).map (.copy n ·):=by unfold J3.asF;dsimp only;rw [if_pos hn]
  refine bi hp rfl (zAA _ _ (SqL.of ha) rfl ?_);rw [iG];refine zAY L N tss ns most pl mn hR (hok.2.2 x Jo) hm (fun o H1 ho s1 q1 hq1=>?_) (fun ho H1 s1=>e (by rw [eA,ho];rfl) _ s1);exact q (.copy n o) q1 _ (by rw [eA,ho];rfl) trivial (s1.trans (Same.upd hq1)) (SqT.of ae)
 ·rw [zq0 (fun z=>h3 (by have:=of_decide_eq_true z;omega))];refine zn _ (.inl (SqL.of ha)) ?_;rw [zq2]
  by_cases h5:(n::r).length=5
  ·rw [h5,zq1 Jm];obtain ⟨n',u,x,k,y,z⟩:=zx h5
   cases z
   refine zAA _ _ (SqL.of ha) rfl (zAF _ (.inr (T.o_OPS H)) rfl rfl ?_);rw [show inV (.str k) [.str "plus",.str "less",.str "and",.str "or",.str "xor",.str "below",.str "same"]=decide (k∈FB.opsL) from cC (ns:=FB.opsL)]
   by_cases hk:k∈FB.opsL
   ·have eA:J3.asF ns most [n,u,x,k,y]=(match J3.opF ns most x,J3.opF ns most y with | some a,some b=>some (.op k n a b) | _,_=>none):=by unfold J3.asF;dsimp only;rw [if_pos ⟨hn,hk⟩]<;>rfl
    rw [zq5 hk,zq1 rfl];refine zAA _ _ (SqL.of ha) rfl (bi hp rfl (zAA _ _ (SqL.of ha) rfl ?_));rw [iG];refine zAY L N tss ns most pl mn hR (hok.2.2 x Jo) hm (fun o H1 ho s1=>?_) (fun ho H1 s1=>e (by rw [eA,ho]) _ s1);refine bi (s1 _ _ hp) rfl (zAA _ _ (SqL.of (s1 _ _ ha)) rfl ?_);rw [iG];refine zAY L N tss ns most pl mn (hR.mv s1) (hok.2.2 y Jo) hm (fun o2 H2 ho2 s2 q1 hq1=>?_) (fun ho2 H2 s2=>e (by rw [eA,ho,ho2]) _ (s1.trans s2));exact q (.op k n o o2) q1 _ (by rw [eA,ho,ho2]) hk ((s1.trans s2).trans (Same.upd hq1)) (SqT.of ae)
   ·rw [zq6 hk,zq0 Jm];have eA:J3.asF ns most [n,u,x,k,y]=none:=by unfold J3.asF;dsimp only;rw [if_neg (fun z=>hk z.2)]
    exact ⟨.inr (zAC a _ rfl ha (de hok).1 (de hok).2),e eA _ (Same.refl _)⟩
  ·rw [zq0 (fun z=>h5 (by have:=of_decide_eq_true z;omega))];exact ⟨.inr (zAC a _ rfl ha (de hok).1 (de hok).2),e (ml h3 h5) _ (Same.refl _)⟩
theorem qV(T:Txt K mg t):FnOk P w K mg base CX0 2 t.f_110 t.e_110 ["self","parted","width","names"] (kD t.C_RowReader):=by
 have G_103:=@i7 P w K mg base t T;refine T.d_110.F.ok yF ∅ ?_;rintro cdv A outer s H vs Q E hr ⟨p,L,N,wd,rfl,dx,tss,ns,hp,hL,hn,w0,w8,q⟩;refine ⟨_,
   (XSs.h
   (ai
    (bZ (yqv 0 vl) (yqv 1 vl) rfl)
   (ai
    (bZ (yqv 0 vl) (aB T.d_103 G_103 hr.m (aa (yqv 2 vl) af) gl) rfl)
   (ai
    (bZ (yqv 0 vl) (yqv 3 vl) rfl)
   (ai
    (bZ (yqv 0 vl) ac rfl)
   (aj
    (bZ (yqv 0 vl) ac rfl))))))),?_⟩
 rw [show start _ [V.ref p,V.ref L,V.int wd,V.ref N]=[some (.ref p),some (.ref L),some (.int wd),some (.ref N)] from rfl];rwa [fk];refine fB hp T.c_RowReader.cl T.n_RowReader_parted Jo ?_;rw [c8 Jp,sQ];rwa [fk];refine zAB w0 w8 ?_;refine fB ae T.c_RowReader.cl T.n_RowReader_words_many Jo ?_;rw [c8 Jl,ej];rwa [];refine fB ae T.c_RowReader.cl T.n_RowReader_names Jo ?_;rw [c8 Jl,ej];rwa [];refine fB ae T.c_RowReader.cl T.n_RowReader_place Jo ?_;rw [c8 Jl,ej];rwa [];refine fB ae T.c_RowReader.cl T.n_RowReader_statements_many Jo ?_;rw [c8 Jl,ej];refine q _ SameX.upd ⟨⟨dx,by rw [ae,show (((2 ^ wd.toNat:Nat):Int))=2 ^ wd.toNat from by exact_mod_cast rfl];rfl⟩,hL.mv (SameX.lst SameX.upd hp),SameX.lst SameX.upd hp _ _ hn⟩
variable {H:Hp} {d k most:Nat}
def hX(l:List Str):Prop:=l=[]\/l=[("else":Str)]\/l=[("end":Str)]
def StT(tss:List (List Str))(most:Nat):Prop:=(∀ts∈tss,J3.okT ts)/\most<=256/\tss.length<=200
theorem cT{tss:List (List Str)}(h:b7 tss k≠[]):tss[k]?=some (b7 tss k):=by
 unfold b7 at h ⊢
 cases e:tss[k]? with
 |none=>rw [e] at h;exact absurd rfl h
 |some l=>rfl
theorem ib{tss:List (List Str)}(hS:StT tss most)(h:b7 tss k=[]):tss.drop k=[]:=by
 unfold b7 at h
 cases e:tss[k]? with
 |none=>exact wD (by simpa using e)
 |some l=>rw [e] at h;exact absurd h (hS.1 l (dr e)).1
theorem cw{tss:List (List Str)}{l:List Str}(h:tss[k]?=some l):tss.drop k=l::tss.drop (k+1):=by obtain ⟨h1,h2⟩:=zq17.mp h;rw [List.drop_eq_getElem_cons h1,h2]
theorem Adv.trans{ns:List Str}{a b c:List (List Str)}{n n1 n2:Nat}(h:J3.Adv ns most d a n b n1)(h2:J3.Adv ns most d b n1 c n2):J3.Adv ns most d a n c n2:=fun σ hσ=>(h σ hσ).trans (h2 σ hσ)
theorem Adv.dead{ns:List Str}{a b:List (List Str)}{n n1:Nat}(h:J3.Adv ns most d a n b n1)(h2:J3.pJ ns most d b n1):J3.pJ ns most d a n:=fun σ hσ=>(h σ hσ).trans (h2 σ hσ)
def mD(K:W.Frag)(C X:Addr)(d:Nat)(p:Addr)(dep:Int)(H:Hp)(Q:VK)(E:XK):Prop:=∃(L N:Addr)(tss:List (List Str)) (ns:List Str) (most pl mn k:Nat),RdH C H p L N tss ns most pl mn/\StT tss most/\dep=(k:Int)/\k<=8/\9<=k+d/\mn<=40/\
 (∀r ys g ss pl' mn' H',SameX p H H'->RdH C H' p L N tss ns most pl' mn'->H' r=some (.lst ys)->StmsV K H' ys ss g->(∀c∈r::g,H c=none)->hX (b7 tss pl')->J3.Adv ns most k (tss.drop pl) mn (tss.drop pl') mn'->mn'=mn+aJ ss->aY ss+k<=8->mn'<=40->Q (.ref r) H')/\
 (∀H',SameX p H H'->J3.pJ ns most k (tss.drop pl) mn->E (.ref X) none H')
def gq(K:W.Frag)(C X:Addr)(d:Nat):Sp:=fun vs H Q E=>∃(p:Addr)(dep:Int),vs=[.ref p,.int dep]/\mD K C X d p dep H Q E
theorem rG{K:W.Frag}{C X p:Addr}{dep:Int}{Q:VK}{E:XK}:gq K C X d [.ref p,.int dep] H Q E=mD K C X d p dep H Q E:=propext ⟨by rintro ⟨_,_,e,q⟩;cases e;exact q,fun q=>zAE _ _ rfl q⟩
def mz(K:W.Frag)(C X:Addr)(d:Nat)(p:Addr)(dep:Int)(H:Hp)(Q:VK)(E:XK):Prop:=∃(L N:Addr)(tss:List (List Str)) (ns:List Str) (most pl mn k:Nat) (l:List Str),RdH C H p L N tss ns most pl mn/\StT tss most/\dep=(k:Int)/\k<=8/\9<=k+d/\mn<=40/\tss[pl]?=some l/\l≠[("end":Str)]/\l≠[("else":Str)]/\
 (∀y g st pl' mn' H',SameX p H H'->RdH C H' p L N tss ns most pl' mn'->StmV K H' y st g->(∀c∈g,H c=none)->J3.Adv ns most k (tss.drop pl) mn (tss.drop pl') mn'->mn'=mn+st.many->st.deep+k<=8->mn'<=40->Q y H')/\
 (∀H',SameX p H H'->J3.pJ ns most k (tss.drop pl) mn->E (.ref X) none H')
def fq(K:W.Frag)(C X:Addr)(d:Nat):Sp:=fun vs H Q E=>∃(p:Addr)(dep:Int),vs=[.ref p,.int dep]/\mz K C X d p dep H Q E
theorem rE{K:W.Frag}{C X p:Addr}{dep:Int}{Q:VK}{E:XK}:fq K C X d [.ref p,.int dep] H Q E=mz K C X d p dep H Q E:=propext ⟨by rintro ⟨_,_,e,q⟩;cases e;exact q,fun q=>zAE _ _ rfl q⟩
theorem in3{K:W.Frag}{a p1 p2 p3 p4:Addr}{ah:List Str}{Z:VK}(ha:H a=some (.lst (ah.map V.str)))(h1:H p1=some (.lst []))(h2:H p2=some (.lst [.str "else"])) (h3:H p3=some (.lst [.str "end"])) (h4:H p4=some (.tup [.ref p1,.ref p2,.ref p3]))
 (n21:p2≠p1) (n31:p3≠p1) (n32:p3≠p2) (na1:p1≠a) (na2:p2≠a) (na3:p3≠a) (h:Z (.bl (!(decide (([]:List Str)=ah) || (decide ([("else":Str)]=ah) || (decide ([("end":Str)]=ah) || false))))) H):nq K 1 (.ref a) (.ref p4) H Z:=by
 refine zAM p4 ([p1,p2,p3]) (fun b=>if b=p1 then decide (([]:List Str)=ah) else if b=p2 then decide ([("else":Str)]=ah) else decide ([("end":Str)]=ah)) rfl (SqT.of h4) (fun b hb=>?_) ?_
 ·rcases zq4.mp hb with rfl | hb
  ·dsimp only;rw [zq1 rfl];exact j5 na1 (SqL.of h1) (SqL.of ha)
  rcases zq4.mp hb with rfl | hb
  ·dsimp only;rw [zq0 n21,zq1 rfl];exact j5 na2 (SqL.of h2) (SqL.of ha)
  rw [zq15.mp hb];dsimp only;rw [zq0 n31,zq0 n32];exact j5 na3 (SqL.of h3) (SqL.of ha)
 ·rw [kL,kL,kL,List.any_nil,zq1 rfl,zq0 n21,zq1 rfl,zq0 n31,zq0 n32];exact h
theorem wZ{ah:List Str}(h:¬hX ah):(decide (([]:List Str)=ah) || (decide ([("else":Str)]=ah) || (decide ([("end":Str)]=ah) || false)))=false:=by rw [zq6 (fun z=>h (.inl z.symm)),zq6 (fun z=>h (.inr (.inl z.symm))),zq6 (fun z=>h (.inr (.inr z.symm)))];rfl
theorem tW{ah:List Str}(h:hX ah):(decide (([]:List Str)=ah) || (decide ([("else":Str)]=ah) || (decide ([("end":Str)]=ah) || false)))=true:=by rcases h with z | z | z<;>rw [z]<;>decide +kernel
def RwI(K:W.Frag)(C p r:Addr)(H:Hp)(L N:Addr)(tss:List (List Str))(ns:List Str)(most pl mn k:Nat)(H':Hp):Prop:=∃pl' mn' ys ss g,SameX p H H'/\RdH C H' p L N tss ns most pl' mn'/\H' r=some (.lst ys)/\StmsV K H' ys ss g/\r∉g/\(∀c∈g,H c=none)/\J3.Adv ns most k (tss.drop pl) mn (tss.drop pl') mn'/\mn'=mn+aJ ss/\aY ss+k<=8/\mn'<=40
theorem iH(T:Txt K mg t)(d:Nat)(G_114:FnOk P w K mg base (CX1 P w) (4 * d+5) t.f_114 t.e_114 ["self","depth"] (fq K t.C_RowReader t.X_NoProgram d)):FnOk P w K mg base (CX1 P w) (4 * d+6) t.f_113 t.e_113 ["self","depth"] (gq K t.C_RowReader t.X_NoProgram d):=by
 have G_112:=@fc P w K mg base t T;refine T.d_113.F.okX sc_113 ∅ ?_;rintro cdv A outer s H vs Q E hr ⟨p,dep,rfl,L,N,tss,ns,most,pl,mn,k,hR,hS,rfl,hk,hd,hm,q,e⟩;refine ⟨_,
   (XSs.h
   (ai
    (ar (i:=2) sc_113.nd rfl ll (aH af))
   (ai
    (fM lO (am (oK (n:=1) (g9 Jm hr)) (cY T.c_RowReader.cl T.d_112 G_112 hr.m (yqv 0 vl)) (bb (aa (aH af) (aa (aH (aa ao af)) (aa (aH (aa ao af)) af)))) rfl)
     (aj
      (aR (bS PySem.F.plainAttrs_list PySem.F.slot_list_append PySem.F.type_list_append bo (yqv 2 vl) (aa (b4 T.c_RowReader.cl T.d_114 G_114 hr.m ba (yqv 0 vl) (aa (yqv 1 vl) af)) af)))))
   (aj
    (av (yqv 2 vl)))))),?_⟩
 rw [show start _ [V.ref p,V.int (k:Int)]=[some (.ref p),some (.int k),none] from rfl];rwa [fK,rE];intro r hr0;obtain ⟨μ,hμ⟩:∃μ:L2.St->Hp->Nat,μ=fun _ H'=>match H' r with | some (.lst xs)=>41-xs.length | _=>0:=⟨_,rfl⟩
 obtain ⟨dx0,hp0⟩:=hR.ob;refine fL (fun σ H'=>RwI K t.C_RowReader p r H L N tss ns most pl mn k H'/\σ=[some (.ref p),some (.int (k:Int)),some (.ref r)])
  μ ⟨zAT pl mn ([]) ([]) ([]) (zBA (SameX.of (Same.upd hr0)) (hR.mv (Same.upd hr0)) ae .nil Jo (fun c hc=>by cases hc) (fun _ _=>rfl) (by rw [aJ];rfl) (by rw [aY];omega) hm),rfl⟩ ?_
 rintro σ H1 ⟨⟨pl1,mn1,ys,ss,g,sx,hR1,hr1,hs1,hrg,hfr,hA,hmn,hdp,hm40⟩,rfl⟩;rwa [fK,rE];obtain ⟨dx,hp⟩:=hR1.ob;refine bi hp rfl ?_;refine zAZ L N tss ns _ _ _ hR1 fun a H2 s2 ha p1 hp1 p2 hp2 p3 hp3 p4 hp4=>?_;have t1:=Same.upd (o:=.lst []) hp1;have t2:=Same.upd (o:=.lst [V.str (Str.ofString "else")]) hp2;have t3:=Same.upd (o:=.lst [V.str (Str.ofString "end")]) hp3;have t4:=Same.upd (o:=.tup [V.ref p1,V.ref p2,V.ref p3]) hp4;have s3:=s2.trans (((t1.trans t2).trans t3).trans t4);refine in3 (ah:=b7 tss pl1) (t4 _ _ (t3 _ _ (t2 _ _ (t1 _ _ ha)))) (t4 _ _ (t3 _ _ (t2 _ _ ae))) (t4 _ _ (t3 _ _ ae)) (t4 _ _ ae) ae
  (aA ae hp2).symm (aA (t2 _ _ ae) hp3).symm (aA ae hp3).symm (aA ha hp1).symm (aA (t1 _ _ ha) hp2).symm (aA (t2 _ _ (t1 _ _ ha)) hp3).symm (zn _ rfl ?_)
 generalize upd (upd (upd (upd H2 p1 (.lst [])) p2 (.lst [V.str (Str.ofString "else")])) p3 (.lst [V.str (Str.ofString "end")])) p4 (.tup [V.ref p1,V.ref p2,V.ref p3])=H3 at s3 ⊢;clear t1 t2 t3 t4 hp1 hp2 hp3 hp4 s2 ha;have hp3:=s3 _ _ hp;have hr3:=s3 _ _ hr1;have hs3:=hs1.same s3;have hR3:=hR1.mv s3;have sx3:=sx.trans (SameX.of s3);have ly:=hs3.length;have lm:=gK ss
 by_cases hst:hX (b7 tss pl1)
 ·rw [tW hst,zq0 Jm];refine q r ys g ss pl1 mn1 H3 sx3 hR3 hr3 hs3 (fun c hc=>?_) hst hA hmn hdp hm40;rcases zq4.mp hc with z | z
  ·rw [z];exact hr0
  ·exact hfr c z
 ·rw [wZ hst,zq1 Jm];refine zAD (fun σ' H'=>(RwI K t.C_RowReader p r H L N tss ns most pl mn k H'/\σ'=[some (.ref p),some (.int (k:Int)),some (.ref r)])/\μ σ' H'<μ [some (.ref p),some (.int (k:Int)),some (.ref r)] H1) (fun σ' H' h=>zAD _ h.2 rfl h.1) (.inl ⟨rfl,_,SqL.of hr3⟩) ?_;refine bi hp3 rfl ?_;refine zAX L N tss ns most pl1 mn1 k (b7 tss pl1) (zBM hR3 hS rfl hk hd hm40 (cT (fun z=>hst (.inl z))) (fun z=>hst (.inr (.inr z))) (fun z=>hst (.inr (.inl z))) (fun y g2 st pl2 mn2 H4 sx4 hR4 hy hf2 hA2 hmn2 hdp2 hm2=>?_) fun H4 sx4 hD=>e H4 (sx3.trans sx4) (Adv.dead hA hD));obtain ⟨dx4,hp4⟩:=id hR4.ob;have hr4:H4 r=some (.lst ys):=SameX.lst sx4 hp3 _ _ hr3;have hs4:=SameX.stms sx4 hp3 hs3;have nr2:r∉g2:=fun z=>by rw [hf2 r z] at hr3;cases hr3
  have npr:p≠r:=fun z=>by rw [z,hr4] at hp4;cases hp4
  have hHr:H r=none:=hr0;have mp:=jZ st;refine zAF ys hr4 (by rw [zq3];omega) ⟨zAT pl2 mn2 (ys++[y]) (ss++[st]) (g++g2) (zBA ?_ ?_ ae ?_ ?_ ?_ (Adv.trans hA hA2) ?_ ?_ hm2),rfl⟩ ?_
  ·exact fun c o e n=>by rw [aE (aA e hHr)];exact sx4 c o (sx3 c o e n) n
  ·refine ⟨⟨dx4,by rw [aE npr];exact hp4⟩,?_,?_⟩
   ·exact hR.pt.mv fun c xs e=>by rw [aE (aA e hHr)];exact SameX.lst (sx3.trans sx4) hp0 _ _ e
   ·rw [aE (aA hR.nm hHr)];exact SameX.lst (sx3.trans sx4) hp0 _ _ hR.nm
  ·exact (hs4.keep (TSame.updL hr4) (Kept.upd hrg)).snoc (hy.keep (TSame.updL hr4) (Kept.upd nr2))
  ·exact fun z=>(zq10.mp z).elim hrg nr2
  ·intro c hc;rcases zq10.mp hc with z | z
   ·exact hfr c z
   ·exact sx3.free hp3 (hf2 c z)
  ·rw [cm,aJ,aJ];omega
  ·rw [eY,aY,aY];omega
  ·rw [hμ];dsimp only;rw [ae,hr1];show 41-(ys++[y]).length<41-ys.length;rw [cf,gi];omega
variable {kw:Str}
def mr(K:W.Frag)(C X:Addr)(d:Nat)(p:Addr)(dep:Int)(H:Hp)(Q:VK)(E:XK):Prop:=∃(L N:Addr)(tss:List (List Str)) (ns:List Str) (most pl mn k:Nat),RdH C H p L N tss ns most pl mn/\StT tss most/\dep=(k:Int)/\9<=k+d/\mn<=40/\
 (∀r ys g ss pl' mn' H',SameX p H H'->RdH C H' p L N tss ns most pl' mn'->H' r=some (.lst ys)->StmsV K H' ys ss g->(∀c∈r::g,H c=none)->hX (b7 tss pl')->J3.Adv ns most k (tss.drop pl) mn (tss.drop pl') mn'->mn'=mn+aJ ss->aY ss+k<=8->mn'<=40->Q (.ref r) H')/\
 (∀H',SameX p H H'->(8<k\/J3.pJ ns most k (tss.drop pl) mn)->E (.ref X) none H')
def gp(K:W.Frag)(C X:Addr)(d:Nat):Sp:=fun vs H Q E=>∃(p:Addr)(dep:Int),vs=[.ref p,.int dep]/\mr K C X d p dep H Q E
theorem jm{K:W.Frag}{C X p:Addr}{d:Nat}{dep:Int}{H:Hp}{Q:VK}{E:XK}:gp K C X d [.ref p,.int dep] H Q E=mr K C X d p dep H Q E:=propext ⟨by rintro ⟨_,_,e,q⟩;cases e;exact q,fun q=>zAE _ _ rfl q⟩
def pW(K:W.Frag)(C X:Addr)(d:Nat)(kw:Str)(p:Addr)(n:Str)(dep:Int)(H:Hp)(Q:VK)(E:XK):Prop:=∃(L N:Addr)(tss:List (List Str)) (ns:List Str) (most pl mn k:Nat),RdH C H p L N tss ns most pl mn/\StT tss most/\dep=((k+1:Nat):Int)/\9<=k+1+d/\mn<=40/\
 (∀y g st pl' mn' H',SameX p H H'->RdH C H' p L N tss ns most pl' mn'->StmV K H' y st g->(∀c∈g,H c=none)->(∀σ:List Str,σ.length=k->J3.aI ns most (kw::σ) mn (tss.drop pl)=J3.aI ns most σ mn' (tss.drop pl'))->mn'+1=mn+st.many->st.deep+k<=8->k+1<=8->mn'<=40->Q y H')/\
 (∀H',SameX p H H'->(8<k+1\/∀σ:List Str,σ.length=k->J3.aI ns most (kw::σ) mn (tss.drop pl)=none)->E (.ref X) none H')
def hG(K:W.Frag)(C X:Addr)(d:Nat)(kw:Str):Sp:=fun vs H Q E=>∃(p:Addr)(n:Str)(dep:Int),vs=[.ref p,.str n,.int dep]/\pW K C X d kw p n dep H Q E
theorem nu{K:W.Frag}{C X p:Addr}{d:Nat}{n:Str}{dep:Int}{H:Hp}{Q:VK}{E:XK}:hG K C X d kw [.ref p,.str n,.int dep] H Q E=pW K C X d kw p n dep H Q E:=propext ⟨by rintro ⟨_,_,_,e,q⟩;cases e;exact q,fun q=>zAI _ _ _ rfl q⟩
theorem qF{tss:List (List Str)}{ns:List Str}{most pl mn:Nat}{σ:List Str}(hS:StT tss most)(hs:hX (b7 tss pl))(he:b7 tss pl≠[("end":Str)]) (hk:b7 tss pl=[("else":Str)]->kw≠"if"):J3.aI ns most (kw::σ) mn (tss.drop pl)=none:=by
 rcases hs with z | z | z
 ·rw [ib hS z];exact J3.zf
 ·rw [cw (cT (by rw [z];simp)),z];exact J3.gj fun y=>hk z (Option.some.inj y)
 ·exact absurd z he
theorem nM{tss:List (List Str)}{ns:List Str}{most pl mn:Nat}{σ:List Str}(he:b7 tss pl=[("end":Str)]):J3.aI ns most (kw::σ) mn (tss.drop pl)=J3.aI ns most σ mn (tss.drop (pl+1)):=by rw [cw (cT (by rw [he];simp)),he];exact J3.ve
theorem ol(T:Txt K mg t)(d:Nat)(G_113:FnOk P w K mg base (CX1 P w) (4 * d+6) t.f_113 t.e_113 ["self","depth"] (gq K t.C_RowReader t.X_NoProgram d)):FnOk P w K mg base (CX1 P w) (4 * d+7) t.f_118 t.e_118 ["self","depth"] (gp K t.C_RowReader t.X_NoProgram d):=by
 refine T.d_118.F.okX yH ∅ ?_;rintro cdv A outer s H vs Q E hr ⟨p,dep,rfl,L,N,tss,ns,most,pl,mn,k,hR,hS,rfl,hd,hm,q,e⟩;refine ⟨_,
   (XSs.h
   (ai
    (aD (am bG (yqv 1 vl) (bU (v:=.int 8) gl T.g_MOST_DEEP ⟨_,rfl⟩) (au _))
     (aj
      (bq bF rfl T.x_NoProgram T.q_NoProgram (aa ao af) gl))
     ay)
   (aj
    (av (b4 T.c_RowReader.cl T.d_113 G_113 hr.m ba (yqv 0 vl) (aa (yqv 1 vl) af)))))),?_⟩
 rw [show start _ [V.ref p,V.int (k:Int)]=[some (.ref p),some (.int k)] from rfl];rwa [rG];obtain ⟨dx,hp⟩:=hR.ob
 by_cases h8:8<k
 ·rw [zq1 (by simp;omega)];exact e _ (SameX.of (Same.refl _)) (.inl h8)
 ·rw [zq0 (by simp;omega)];exact bi hp rfl (zAL L N tss ns most pl mn k (zBK hR hS rfl Jn hd hm q fun H' sx hD=>e H' sx (.inr hD)))
theorem sv(T:Txt K mg t)(d:Nat)(G_118:FnOk P w K mg base (CX1 P w) (4 * d+7) t.f_118 t.e_118 ["self","depth"] (gp K t.C_RowReader t.X_NoProgram d)):FnOk P w K mg base (CX1 P w) (4 * d+8) t.f_117 t.e_117 ["self","name","depth"] (hG K t.C_RowReader t.X_NoProgram d "while"):=by
 have G_119:=@n6 P w K mg base t T;refine T.d_117.F.okX sc_117 ∅ ?_;rintro cdv A outer s H vs Q E hr ⟨p,n,dep,rfl,L,N,tss,ns,most,pl,mn,k,hR,hS,rfl,hd,hm,q,e⟩;refine ⟨_,
   (XSs.h
   (ai
    (ar (i:=3) sc_117.nd rfl ll (b4 T.c_RowReader.cl T.d_118 G_118 hr.m ba (yqv 0 vl) (aa (yqv 2 vl) af)))
   (ai
    (aR (eP T.c_RowReader.cl T.d_119 G_119 hr.m ba (yqv 0 vl)))
   (aj
    (av (bb (aa ao (aa (yqv 1 vl) (aa (yqv 3 vl) af))))))))),?_⟩
 rw [show start _ [V.ref p,V.str n,V.int ((k+1:Nat):Int)]=[some (.ref p),some (.str n),some (.int ((k+1:Nat):Int)),none] from rfl];rwa [jm,rF];obtain ⟨dx,hp⟩:=hR.ob;refine bi hp rfl ?_;refine zBB L N tss ns most pl mn (k+1) hR hS rfl hd hm (fun r ys g ss pl1 mn1 H1 sx1 hR1 hr1 hs1 hf1 hst hA hmn hdp hm1=>?_) (fun H1 sx1 hD=>e H1 sx1 (hD.imp id fun z σ hσ=>z _ (by rw [cF,hσ])));obtain ⟨dx1,hp1⟩:=id hR1.ob;have hA':∀σ:List Str,σ.length=k->J3.aI ns most (("while":Str)::σ) mn (tss.drop pl)=J3.aI ns most (("while":Str)::σ) mn1 (tss.drop pl1):=fun σ hσ=>hA _ (by rw [cF,hσ]);refine bi hp1 rfl ?_;refine zBH L N tss ns _ _ _ (zAB hR1 (fun he H2 sx2 hR2 p3 hp3=>?_) (fun he H2 s2=>e H2 (sx1.trans (SameX.of s2)) (.inr fun σ hσ=>(hA' σ hσ).trans (qF hS hst he fun _=>Jk))));have s3:=Same.upd (o:=.tup [V.str "while",V.str n,V.ref r]) hp3;exact q _ (r::g) (.whl n ss) (pl1+1) mn1 _ ((sx1.trans sx2).trans (SameX.of s3)) (hR2.mv s3) (.whl (SqT.of ae) (s3 _ _ (SameX.lst sx2 hp1 _ _ hr1)) ((SameX.stms sx2 hp1 hs1).same s3)) hf1 (fun σ hσ=>(hA' σ hσ).trans (nM he)) (by rw [Stm.many];omega) (by rw [Stm.deep];omega) Jn hm1
theorem tV(T:Txt K mg t)(d:Nat)(G_118:FnOk P w K mg base (CX1 P w) (4 * d+7) t.f_118 t.e_118 ["self","depth"] (gp K t.C_RowReader t.X_NoProgram d)):FnOk P w K mg base (CX1 P w) (4 * d+8) t.f_116 t.e_116 ["self","name","depth"] (hG K t.C_RowReader t.X_NoProgram d "if"):=by
 have G_119:=@n6 P w K mg base t T;have G_112:=@fc P w K mg base t T;refine T.d_116.F.okX sc_116 ∅ ?_;rintro cdv A outer s H vs Q E hr ⟨p,n,dep,rfl,L,N,tss,ns,most,pl,mn,k,hR,hS,rfl,hd,hm,q,e⟩;refine ⟨_,
   (XSs.h
   (ai
    (ar (i:=3) sc_116.nd rfl ll (b4 T.c_RowReader.cl T.d_118 G_118 hr.m ba (yqv 0 vl) (aa (yqv 2 vl) af)))
   (ai
    (ar (i:=4) sc_116.nd rfl ll (aH af))
   (bh
    (aD (am (lJ (n:=0) (g9 Jm hr)) (cY T.c_RowReader.cl T.d_112 G_112 hr.m (yqv 0 vl)) (aH (aa ao af)) (au _))
     (ai
      (bZ (yqv 0 vl) (ak aL (c9 (yqv 0 vl) rfl) ac) rfl)
     (aj
      (ar (i:=4) sc_116.nd rfl ll (b4 T.c_RowReader.cl T.d_118 G_118 hr.m ba (yqv 0 vl) (aa (yqv 2 vl) af)))))
     ay)
   (ai
    (aR (eP T.c_RowReader.cl T.d_119 G_119 hr.m ba (yqv 0 vl)))
   (aj
    (av (bb (aa ao (aa (yqv 1 vl) (aa (yqv 3 vl) (aa (yqv 4 vl) af)))))))))))),?_⟩
 rw [show start _ [V.ref p,V.str n,V.int ((k+1:Nat):Int)]=[some (.ref p),some (.str n),some (.int ((k+1:Nat):Int)),none,none] from rfl];simp_arith! [jm];obtain ⟨dx,hp⟩:=hR.ob;refine bi hp rfl ?_;refine zBB L N tss ns most pl mn (k+1) hR hS rfl hd hm (fun r ys g ss pl1 mn1 H1 sx1 hR1 hr1 hs1 hf1 hst hA hmn hdp hm1=>ap ?_) (fun H1 sx1 hD=>e H1 sx1 (hD.imp id fun z σ hσ=>z _ (by rw [cF,hσ])));simp_arith! [];intro r2 hr2;refine ap ?_;simp_arith! [fK,jm];obtain ⟨dx1,hp1⟩:=id hR1.ob;have hA':∀σ:List Str,σ.length=k->J3.aI ns most (("if":Str)::σ) mn (tss.drop pl)=J3.aI ns most (("if":Str)::σ) mn1 (tss.drop pl1):=fun σ hσ=>hA _ (by rw [cF,hσ]);have s2:=Same.upd (o:=.lst []) hr2;refine ⟨fun σ H'=>∃r3 ys3 g3 ss3 kw pl2 mn2,SameX p H1 H'/\RdH t.C_RowReader H' p L N tss ns most pl2 mn2/\H' r3=some (.lst ys3)/\StmsV K H' ys3 ss3 g3/\(∀c∈r3::g3,H1 c=none)/\(∀σ:List Str,σ.length=k->J3.aI ns most (("if":Str)::σ) mn1 (tss.drop pl1)=J3.aI ns most (kw::σ) mn2 (tss.drop pl2))/\mn2=mn1+aJ ss3/\aY ss3+(k+1)<=8/\mn2<=40/\hX (b7 tss pl2)/\(b7 tss pl2=[("else":Str)]->kw≠"if")/\σ=[some (.ref p),some (.str n),some (.int ((k+1:Nat):Int)),some (.ref r),some (.ref r3)],?_,?_⟩
 ·refine bi (s2 _ _ hp1) rfl ?_;refine zAZ L N tss ns _ _ _ (hR1.mv s2) fun a1 H3 s3 ha1 p4 hp4=>?_;have s4:=(s2.trans s3).trans (Same.upd (o:=.lst [V.str (Str.ofString "else")]) hp4);have z:=ef (K:=K) (n:=0) (xs:=b7 tss pl1) (ys:=[("else":Str)]) (SqL.of (Same.upd (o:=.lst [V.str (Str.ofString "else")]) hp4 _ _ ha1)) (SqL.of ae);refine zn _ z (zn _ rfl ?_);have hr24:upd H3 p4 (.lst [V.str (Str.ofString "else")]) r2=some (.lst []):=Same.upd hp4 _ _ (s3 _ _ ae);have hp4':=s4 _ _ hp1;have hR4:=hR1.mv s4;generalize upd H3 p4 (.lst [V.str (Str.ofString "else")])=H4 at s4 hr24 hp4' hR4 ⊢;clear z ha1 hp4 s3 s2
  by_cases hc:b7 tss pl1=[("else":Str)]
  ·rw [zq5 hc,zq1 rfl];refine g8 hp4' T.c_RowReader.cl T.n_RowReader_place rfl ?_;simp_arith! [];refine fB hp4' T.c_RowReader.cl T.n_RowReader_place (show 5<1000 by decide) (ap ?_);rw [fI];have hR5:=hR4.place hp4';have sx5:SameX p H1 (upd H4 p (.ins t.C_RowReader dx1 (d0 L most N ((pl1:Int)+1) mn1))):=(SameX.of s4).trans SameX.upd;have hp5:upd H4 p (.ins t.C_RowReader dx1 (d0 L most N ((pl1:Int)+1) mn1)) p=_:=ae;generalize upd H4 p (.ins t.C_RowReader dx1 (d0 L most N ((pl1:Int)+1) mn1))=H5 at hR5 sx5 hp5 ⊢;simp_arith! [jm];refine bi hp5 rfl ?_;have hB:∀σ:List Str,σ.length=k->J3.aI ns most (("if":Str)::σ) mn1 (tss.drop pl1)=J3.aI ns most (("else":Str)::σ) mn1 (tss.drop (pl1+1)):=fun σ _=>by rw [cw (cT (by rw [hc];simp)),hc];exact J3.pQ
   refine zBB L N tss ns most (pl1+1) mn1 (k+1) hR5 hS rfl hd hm1 (fun r6 ys6 g6 ss6 pl6 mn6 H6 sx6 hR6 hr6 hs6 hf6 hst6 hA6 hmn6 hdp6 hm6=>?_) (fun H6 sx6 hD=>e H6 ((sx1.trans sx5).trans sx6) (hD.imp id fun z σ hσ=>(hA' σ hσ).trans ((hB σ hσ).trans (z _ (by rw [cF,hσ])))));exact zBH r6 ys6 g6 ss6 ("else") pl6 mn6 (zBL (sx5.trans sx6) hR6 hr6 hs6 (fun c hc=>sx5.free hp5 (hf6 c hc)) (fun σ hσ=>(hB σ hσ).trans (hA6 _ (by rw [cF,hσ]))) hmn6 hdp6 hm6 hst6 (fun _=>Jk) rfl)
  ·rw [zq6 hc,zq0 zq8];refine zBH r2 ([]) ([]) ([]) ("if") pl1 mn1 (zBL (SameX.of s4) hR4 hr24 .nil (fun c hc=>?_) (fun _ _=>rfl) (by rw [aJ];rfl) (by rw [aY];omega) hm1 hst (fun z=>absurd z hc) rfl);rw [zq15.mp hc];exact hr2
 rintro σ H2 ⟨r3,ys3,g3,ss3,kw,pl2,mn2,sx2,hR2,hr3,hs3,hf3,hB,hmn2,hdp2,hm2,hst2,hkw,rfl⟩;refine ap ?_;simp_arith! [rF];obtain ⟨dx2,hp2⟩:=id hR2.ob;have hAB:∀σ:List Str,σ.length=k->J3.aI ns most (("if":Str)::σ) mn (tss.drop pl)=J3.aI ns most (kw::σ) mn2 (tss.drop pl2):=fun σ hσ=>(hA' σ hσ).trans (hB σ hσ);refine bi hp2 rfl ?_;refine zBH L N tss ns _ _ _ (zAB hR2 (fun he H3 sx3 hR3=>ap ?_) fun he H3 s3=>e H3 ((sx1.trans sx2).trans (SameX.of s3)) (.inr fun σ hσ=>(hAB σ hσ).trans (qF hS hst2 he hkw)));simp_arith! [];intro p4 hp4;have s4:=Same.upd (o:=.tup [V.str "if",V.str n,V.ref r,V.ref r3]) hp4;have sx13:=sx2.trans sx3;refine q _ (r::r3::(g++g3)) (.ifs n ss ss3) (pl2+1) mn2 _ ((sx1.trans sx13).trans (SameX.of s4)) (hR3.mv s4) (.ifs (SqT.of ae) (s4 _ _ (SameX.lst sx13 hp1 _ _ hr1)) (s4 _ _ (SameX.lst sx3 hp2 _ _ hr3)) ((SameX.stms sx13 hp1 hs1).same s4) ((SameX.stms sx3 hp2 hs3).same s4)) (fun c hc=>?_) (fun σ hσ=>(hAB σ hσ).trans (nM he)) (by rw [Stm.many];omega) (by rw [Stm.deep];omega) Jn hm2;rcases zq4.mp hc with z | z
 ·rw [z];exact hf1 r (bV ..)
 rcases zq4.mp z with z | z
 ·rw [z];exact sx1.free hp1 (hf3 r3 (bV ..))
 rcases zq10.mp z with z | z
 ·exact hf1 c (bH _ z)
 ·exact sx1.free hp1 (hf3 c (bH _ z))
theorem oC(T:Txt K mg t)(d:Nat)(G_116:FnOk P w K mg base (CX1 P w) (4 * d+8) t.f_116 t.e_116 ["self","name","depth"] (hG K t.C_RowReader t.X_NoProgram d "if")) (G_117:FnOk P w K mg base (CX1 P w) (4 * d+8) t.f_117 t.e_117 ["self","name","depth"] (hG K t.C_RowReader t.X_NoProgram d "while")) :
  FnOk P w K mg base (CX1 P w) (4 * (d+1)+5) t.f_114 t.e_114 ["self","depth"] (fq K t.C_RowReader t.X_NoProgram (d+1)):=by
 have G_112:=@fc P w K mg base t T;have G_115:=@xj P w K mg base t T;have G_120:=@qU P w K mg base t T;have G_121:=@lF P w K mg base t T;refine T.d_114.F.okX sc_114 ∅ ?_;rintro cdv A outer s H vs Q E hr ⟨p,dep,rfl,L,N,tss,ns,most,pl,mn,k,l,hR,hS,rfl,hk,hd,hm,hl,hend,helse,q,e⟩;refine ⟨_,
   (XSs.h
   (ai
    (ar (i:=2) sc_114.nd rfl ll (cY T.c_RowReader.cl T.d_112 G_112 hr.m (yqv 0 vl)))
   (ai
    (bZ (yqv 0 vl) (ak aL (c9 (yqv 0 vl) rfl) ac) rfl)
   (ai
    (bZ (yqv 0 vl) (ak aL (c9 (yqv 0 vl) rfl) ac) rfl)
   (bh
    (aD (am bG (c9 (yqv 0 vl) rfl) (bU (v:=.int 40) gl T.g_MOST_STATEMENTS ⟨_,rfl⟩) (au _))
     (aj
      (bq bF rfl T.x_NoProgram T.q_NoProgram (aa ao af) gl))
     ay)
   (ai
    (aD (aW (bc (am bG (ax aq gl T.z_len PySem.boot_len (aa (yqv 2 vl) af)) ac (au _)) (b9 (am aU (aw aF (yqv 2 vl) ac) ao (au _)))))
     (aj
      (av (b4 T.c_RowReader.cl T.d_115 G_115 hr.m ba (yqv 0 vl) (aa (yqv 2 vl) af))))
     ay)
   (ai
    (aD (aW (bc (am aU (ax aq gl T.z_len PySem.boot_len (aa (yqv 2 vl) af)) ac (au _)) (b9 (am aU (aw aF (yqv 2 vl) ac) ao (au _)))))
     (aj
      (av (bb (aa ao (aa (b4 T.c_RowReader.cl T.d_120 G_120 hr.m ba (yqv 0 vl) (aa (aw aF (yqv 2 vl) ac) af)) af)))))
     ay)
   (ai
    (aD (aW (bc (am aU (ax aq gl T.z_len PySem.boot_len (aa (yqv 2 vl) af)) ac (au _)) (b9 (am aU (aw aF (yqv 2 vl) ac) ao (au _)))))
     (aj
      (av (b4 T.c_RowReader.cl T.d_116 G_116 hr.m ba (yqv 0 vl) (aa (b4 T.c_RowReader.cl T.d_121 G_121 hr.m ba (yqv 0 vl) (aa (aw aF (yqv 2 vl) ac) af)) (aa (ak aL (yqv 1 vl) ac) af)))))
     ay)
   (ai
    (aD (aW (bc (am aU (ax aq gl T.z_len PySem.boot_len (aa (yqv 2 vl) af)) ac (au _)) (b9 (am aU (aw aF (yqv 2 vl) ac) ao (au _)))))
     (aj
      (av (b4 T.c_RowReader.cl T.d_117 G_117 hr.m ba (yqv 0 vl) (aa (b4 T.c_RowReader.cl T.d_121 G_121 hr.m ba (yqv 0 vl) (aa (aw aF (yqv 2 vl) ac) af)) (aa (ak aL (yqv 1 vl) ac) af)))))
     ay)
   (aj
    (bq bF rfl T.x_NoProgram T.q_NoProgram (aa (dS hr.gd (g9 (n:=8) Jm hr) Jk (yqv 2 vl)) af) gl))))))))))),?_⟩
 rw [show start _ [V.ref p,V.int (k:Int)]=[some (.ref p),some (.int k),none] from rfl];simp_arith! [fK];obtain ⟨dx,hp⟩:=hR.ob;have hah:b7 tss pl=l:=by unfold b7;rw [hl];rfl
 have hdr:=cw hl;have hok:=hS.1 l (dr hl);refine bi hp rfl ?_;refine zAZ L N tss ns _ pl mn hR fun a H1 s1 ha=>ap ?_;have hp1:=s1 _ _ hp;have hR1:=hR.mv s1;simp_arith! [];refine g8 hp1 T.c_RowReader.cl T.n_RowReader_place rfl ?_;simp_arith! [];refine fB hp1 T.c_RowReader.cl T.n_RowReader_place (show 5<1000 by decide) (ap ?_);rw [fI];have hR2:=hR1.place hp1;have hp2:upd H1 p (.ins t.C_RowReader dx (d0 L most N ((pl:Int)+1) mn)) p=some (.ins t.C_RowReader dx (d0 L most N ((pl+1:Nat):Int) mn)):=by rw [ae];rfl
 have sx2:SameX p H (upd H1 p (.ins t.C_RowReader dx (d0 L most N ((pl:Int)+1) mn))):=(SameX.of s1).trans SameX.upd;have ha2:=SameX.lst (SameX.upd (o:=.ins t.C_RowReader dx (d0 L most N ((pl:Int)+1) mn))) hp1 _ _ ha;generalize upd H1 p (.ins t.C_RowReader dx (d0 L most N ((pl:Int)+1) mn))=H2 at hR2 hp2 sx2 ha2 ⊢;clear hR1 hp1 s1 ha;simp_arith! [];refine g8 hp2 T.c_RowReader.cl T.n_RowReader_statements_many rfl ?_;simp_arith! [];refine fB hp2 T.c_RowReader.cl T.n_RowReader_statements_many (show 5<1000 by decide) (ap ?_);rw [rk];have hR3:=hR2.many hp2;have hp3:upd H2 p (.ins t.C_RowReader dx (d0 L most N ((pl+1:Nat):Int) ((mn:Int)+1))) p=some (.ins t.C_RowReader dx (d0 L most N ((pl+1:Nat):Int) ((mn+1:Nat):Int))):=by rw [ae];rfl
 have sx3:SameX p H (upd H2 p (.ins t.C_RowReader dx (d0 L most N ((pl+1:Nat):Int) ((mn:Int)+1)))):=sx2.trans SameX.upd;have ha3:=SameX.lst (SameX.upd (o:=.ins t.C_RowReader dx (d0 L most N ((pl+1:Nat):Int) ((mn:Int)+1)))) hp2 _ _ ha2;generalize upd H2 p (.ins t.C_RowReader dx (d0 L most N ((pl+1:Nat):Int) ((mn:Int)+1)))=H3 at hR3 hp3 sx3 ha3 ⊢;clear hR2 hp2 sx2 ha2;rw [hah] at ha3;simp_arith! [];refine zn (fun σ H'=>H'=H3/\mn+1<=40/\σ=[some (.ref p),some (.int (k:Int)),some (.ref a)]) ?_ ?_
 ·refine g8 hp3 T.c_RowReader.cl T.n_RowReader_statements_many rfl ?_;simp_arith! []
  by_cases h40:mn+1<=40
  ·rw [zq0 (by simp;omega)];exact h40
  ·rw [zq1 (by simp;omega)];exact e H3 sx3 fun σ _=>by rw [hdr];exact J3.wQ Jn hend helse
 rintro σ H4 ⟨rfl,h40,rfl⟩;refine ap ?_;have no:∀H',SameX p H4 H'->(∀σ:List Str,σ.length=k->J3.aI ns most σ mn (l::tss.drop (pl+1))=none)->E (.ref t.X_NoProgram) none H':=fun H' sx h=>e H' (sx3.trans sx) fun σ hσ=>by rw [hdr];exact h σ hσ
 have yes:∀y g st pl' mn' H',SameX p H4 H'->RdH t.C_RowReader H' p L N tss ns most pl' mn'->StmV K H' y st g->(∀c∈g,H4 c=none)->(∀σ:List Str,σ.length=k->J3.aI ns most σ mn (l::tss.drop (pl+1))=J3.aI ns most σ mn' (tss.drop pl'))->mn'=mn+st.many->st.deep+k<=8->mn'<=40->Q y H':=fun y g st pl' mn' H' sx h1 h2 h3 h4=>q y g st pl' mn' H' (sx3.trans sx) h1 h2 (fun c hc=>sx3.free hp3 (h3 c hc)) fun σ hσ=>by rw [hdr];exact h4 σ hσ
 have sh:(∃(a_1:Addr)(ts:List Str),V.ref a=V.ref a_1/\H4 a_1=some (.lst (ts.map V.str))/\ts.length<=100/\∀t∈ts,shW t):=zAA a l rfl ha3 (de hok)
 clear q e hdr sx3 hl hah
 by_cases hq:l[1]?=some ("=":Str)
 ·simp_arith! [zV];refine zn _ (.inl (SqL.of ha3)) ?_;have l1:1<l.length:=(zq17.mp hq).1;rw [zq2,zq1 (by simp;omega)];refine zAC _ _ (SqL.of ha3) (bt (j:=1) (by rw [cA,hq];rfl)) rfl (zn _ rfl ?_);rw [zq1 Jp];refine bi hp3 rfl (zAL L N tss ns most _ _ l (zAP hR3 hS.2.1 ha3 hok (fun dd q1 H5 hdd hf s5 hq5=>?_) (fun hdd H5 s5=>no H5 (SameX.of s5) fun σ _=>by rw [J3.mm hq,hdd];rfl)));exact yes _ [] (.deed dd) (pl+1) (mn+1) H5 (SameX.of s5) (hR3.mv s5) (.deed hf hq5) (fun c hc=>by cases hc) (fun σ _=>by rw [J3.mm hq,hdd];rfl) (by rw [Stm.many]) (by rw [Stm.deep];omega) h40
 by_cases h2:l.length=2
 ·obtain ⟨kx,x,rfl⟩:=l8 h2;have hx:x≠"=":=fun z=>hq (by rw [z];rfl);simp_arith! [];refine zn _ (.inl (SqL.of ha3)) ?_;rw [zq1 Jp];refine zAC _ _ (SqL.of ha3) rfl rfl (zn _ rfl ?_);rw [zq0 (by simpa using hx)];refine ap ?_;simp_arith! [iG];refine zn _ (.inl (SqL.of ha3)) ?_;rw [zq1 Jp];refine zAC _ _ (SqL.of ha3) rfl rfl (zn _ rfl ?_)
  by_cases k1:kx="tell"
  ·subst k1;rw [zq1 Jp];refine bi hp3 rfl (zAA _ _ (SqL.of ha3) rfl ?_);rw [iG];refine zAY L N tss ns most _ _ hR3 (hok.2.2 x Jo) hS.2.1 (fun o H5 ho s5 p5 hp5=>?_) (fun ho H5 s5=>no H5 (SameX.of s5) fun σ _=>by rw [J3.gz hx,ho];rfl);have s6:=s5.trans (Same.upd (o:=.tup [V.str (Str.ofString "tell"),o.v]) hp5);exact yes _ [] (.deed (.tell o)) (pl+1) (mn+1) _ (SameX.of s6) (hR3.mv s6) (.deed trivial (SqT.of ae)) (fun c hc=>by cases hc) (fun σ _=>by rw [J3.gz hx,ho];rfl) (by rw [Stm.many]) (by rw [Stm.deep];omega) h40
  rw [zq0 (by simpa using k1)];refine ap ?_;simp_arith! [gW,nu];refine zn _ (.inl (SqL.of ha3)) ?_;rw [zq1 Jp];refine zAC _ _ (SqL.of ha3) rfl rfl (zn _ rfl ?_)
  by_cases k2:kx="if"
  ·subst k2;rw [zq1 Jp];refine bi hp3 rfl (bi hp3 rfl (zAA _ _ (SqL.of ha3) rfl ?_));rw [gW];refine zBG L N tss ns _ _ _ hR3 (fg (hok.2.2 x Jo)) (fun hn=>?_) (fun hn=>no _ (SameX.of (Same.refl _)) fun σ _=>by rw [J3.dJ hx (.inl rfl),zq0 hn]);simp only [nu];refine zBB L N tss ns most (pl+1) (mn+1) k hR3 hS rfl Jn h40 (fun y g st pl' mn' H5 sx5 hR5 hy hf hB hmn hdp k8 hm'=>?_) fun H5 sx5 h=>no H5 sx5 fun σ hσ=>?_
   ·refine yes y g st pl' mn' H5 sx5 hR5 hy hf (fun σ hσ=>?_) Jn hdp hm';rw [J3.dJ hx (.inl rfl),zq1 hn,zq0 Jn];exact hB σ hσ
   ·rw [J3.dJ hx (.inl rfl),zq1 hn]
    split
    ·rfl
    ·exact (h.resolve_left Jn) σ hσ
  rw [zq0 (by simpa using k2)];refine ap ?_;simp_arith! [gW,nu];refine zn _ (.inl (SqL.of ha3)) ?_;rw [zq1 Jp];refine zAC _ _ (SqL.of ha3) rfl rfl (zn _ rfl ?_)
  by_cases k3:kx="while"
  ·subst k3;rw [zq1 Jp];refine bi hp3 rfl (bi hp3 rfl (zAA _ _ (SqL.of ha3) rfl ?_));rw [gW];refine zBG L N tss ns _ _ _ hR3 (fg (hok.2.2 x Jo)) (fun hn=>?_) (fun hn=>no _ (SameX.of (Same.refl _)) fun σ _=>by rw [J3.dJ hx (.inr rfl),zq0 hn]);simp only [nu];refine zBB L N tss ns most (pl+1) (mn+1) k hR3 hS rfl Jn h40 (fun y g st pl' mn' H5 sx5 hR5 hy hf hB hmn hdp k8 hm'=>?_) fun H5 sx5 h=>no H5 sx5 fun σ hσ=>?_
   ·refine yes y g st pl' mn' H5 sx5 hR5 hy hf (fun σ hσ=>?_) Jn hdp hm';rw [J3.dJ hx (.inr rfl),zq1 hn,zq0 Jn];exact hB σ hσ
   ·rw [J3.dJ hx (.inr rfl),zq1 hn]
    split
    ·rfl
    ·exact (h.resolve_left Jn) σ hσ
  rw [zq0 (by simpa using k3)];refine ap ?_;simp_arith! [];exact ⟨.inr sh,no _ (SameX.of (Same.refl _)) fun σ _=>J3.gx hq hend helse fun k' x' z=>by cases z;exact zAB k1 k2 k3⟩
 ·have nn:∀σ:List Str,J3.aI ns most σ mn (l::tss.drop (pl+1))=none:=fun σ=>J3.gx hq hend helse fun k' x' z=>absurd (by rw [z];rfl) h2;simp_arith! [];refine zn _ (.inl (SqL.of ha3)) ?_;rw [zq2]
  by_cases h1:1<l.length
  ·rw [zq1 (by simp;omega)];refine zAC _ _ (SqL.of ha3) (bt (j:=1) (by rw [cA,dI h1];rfl)) rfl (zn _ rfl ?_);rw [zq0 (by simpa using fun z=>hq (by rw [dI h1,z]))];refine ap ?_;simp_arith! [];refine zn _ (.inl (SqL.of ha3)) ?_;rw [zq2,zq0 (fun z=>h2 (by have:=of_decide_eq_true z;omega))];refine ap ?_;simp_arith! [];refine zn _ (.inl (SqL.of ha3)) ?_;rw [zq2,zq0 (fun z=>h2 (by have:=of_decide_eq_true z;omega))];refine ap ?_;simp_arith! [];refine zn _ (.inl (SqL.of ha3)) ?_;rw [zq2,zq0 (fun z=>h2 (by have:=of_decide_eq_true z;omega))];refine ap ?_;simp_arith! [];exact ⟨.inr sh,no _ (SameX.of (Same.refl _)) fun σ _=>nn σ⟩
  ·rw [zq0 (by simp;omega)];refine ap ?_;simp_arith! [];refine zn _ (.inl (SqL.of ha3)) ?_;rw [zq2,zq0 (fun z=>h2 (by have:=of_decide_eq_true z;omega))];refine ap ?_;simp_arith! [];refine zn _ (.inl (SqL.of ha3)) ?_;rw [zq2,zq0 (fun z=>h2 (by have:=of_decide_eq_true z;omega))];refine ap ?_;simp_arith! [];refine zn _ (.inl (SqL.of ha3)) ?_;rw [zq2,zq0 (fun z=>h2 (by have:=of_decide_eq_true z;omega))];refine ap ?_;simp_arith! [];exact ⟨.inr sh,no _ (SameX.of (Same.refl _)) fun σ _=>nn σ⟩
theorem kf(T:Txt K mg t):∀d,FnOk P w K mg base (CX1 P w) (4 * d+5) t.f_114 t.e_114 ["self","depth"] (fq K t.C_RowReader t.X_NoProgram d)/\FnOk P w K mg base (CX1 P w) (4 * d+6) t.f_113 t.e_113 ["self","depth"] (gq K t.C_RowReader t.X_NoProgram d)
 |0=>by
  have h0:FnOk P w K mg base (CX1 P w) (4 * 0+5) t.f_114 t.e_114 ["self","depth"] (fq K t.C_RowReader t.X_NoProgram 0):=⟨fun vs H Q E h=>by obtain ⟨_,_,_,_,_,_,_,_,_,_,_,_,_,_,_,h8,h9,_⟩:=h;omega,fun _ _ _ _ _ _ _ _ _ _ _ _ _ h=>by obtain ⟨_,_,_,_,_,_,_,_,_,_,_,_,_,_,_,h8,h9,_⟩:=h;omega⟩
  exact ⟨h0,iH T 0 h0⟩
 |d+1=>by have h1:=ol T d (kf T d).2;have h2:=oC T d (tV T d h1) (sv T d h1);exact ⟨h2,iH T (d+1) h2⟩
def jC(K:W.Frag)(C X:Addr)(p:Addr)(H:Hp)(Q:VK)(E:XK):Prop:=∃(L N:Addr)(tss:List (List Str)) (ns:List Str) (most:Nat),RdH C H p L N tss ns most 0 0/\StT tss most/\
 (∀r ys g ss H',SameX p H H'->H' r=some (.lst ys)->StmsV K H' ys ss g->(∀c∈r::g,H c=none)->J3.aI ns most [] 0 tss=some (aJ ss)->aY ss<=8->aJ ss<=40->Q (.ref r) H')/\
 (∀H',SameX p H H'->J3.aI ns most [] 0 tss=none->E (.ref X) none H')
def ko(K:W.Frag)(C X:Addr):Sp:=fun vs H Q E=>∃p:Addr,vs=[.ref p]/\jC K C X p H Q E
theorem uz{K:W.Frag}{C X p:Addr}{H:Hp}{Q:VK}{E:XK}:ko K C X [.ref p] H Q E=jC K C X p H Q E:=propext ⟨by rintro ⟨_,e,q⟩;cases e;exact q,fun q=>zn _ rfl q⟩
theorem qL(T:Txt K mg t):FnOk P w K mg base (CX1 P w) 43 t.f_111 t.e_111 ["self"] (ko K t.C_RowReader t.X_NoProgram):=by
 have G_112:=@fc P w K mg base t T;have G_113:=(@kf P w K mg base t T 9).2;refine T.d_111.F.okX sc_111 ∅ ?_;rintro cdv A outer s H vs Q E hr ⟨p,rfl,L,N,tss,ns,most,hR,hS,q,e⟩;refine ⟨_,
   (XSs.h
   (ai
    (ar (i:=1) sc_111.nd rfl ll (b4 T.c_RowReader.cl T.d_113 G_113 hr.m ba (yqv 0 vl) (aa ac af)))
   (ai
    (aD (am (lK (n:=0) (g9 Jm hr)) (cY T.c_RowReader.cl T.d_112 G_112 hr.m (yqv 0 vl)) (aH af) (au _))
     (aj
      (bq bF rfl T.x_NoProgram T.q_NoProgram (aa ao af) gl))
     ay)
   (aj
    (av (yqv 1 vl)))))),?_⟩
 rw [show start _ [V.ref p]=[some (.ref p),none] from rfl];rwa [rG,fK];obtain ⟨dx,hp⟩:=hR.ob;refine bi hp rfl ?_;refine zAL L N tss ns most 0 0 0 (zBK hR hS rfl Jn Jn Jn (fun r ys g ss pl1 mn1 H1 sx1 hR1 hr1 hs1 hf1 hst hA hmn hdp hm1=>?_) fun H1 sx1 hD=>e H1 sx1 (hD [] rfl));have hA0:J3.aI ns most [] 0 tss=J3.aI ns most [] mn1 (tss.drop pl1):=hA [] rfl;obtain ⟨dx1,hp1⟩:=id hR1.ob;refine bi hp1 rfl ?_;refine zAZ L N tss ns _ _ _ hR1 fun a H2 s2 ha p1 hp1'=>?_;have s3:=s2.trans (Same.upd (o:=.lst []) hp1');have z:=ef (K:=K) (n:=0) (xs:=b7 tss pl1) (ys:=[]) (SqL.of (Same.upd (o:=.lst []) hp1' _ _ ha)) (SqL.of ae);refine zn _ z (zn _ rfl ?_)
 by_cases hn:b7 tss pl1=[]
 ·rw [zq5 hn,zq0 Jm];refine q r ys g ss _ (sx1.trans (SameX.of s3)) (s3 _ _ hr1) (hs1.same s3) hf1 ?_ Jn Jn;rw [hA0,ib hS hn,J3.aI,zq1 ⟨rfl,hm1⟩,hmn,Nat.zero_add]
 ·rw [zq6 hn,zq1 Jm];refine e _ (sx1.trans (SameX.of s3)) ?_;rw [hA0,cw (cT hn)];rcases hst with y | y | y
  ·exact absurd y hn
  ·rw [y];exact J3.gj Jo
  ·rw [y];exact J3.pR
variable {E:XK} {H:Hp} {Q:VK}
def ft:List (List Str)->Option Nat
 | [w,t]::_=>if w="width"/\c7 t=true/\J3.bJ t<9/\t≠"0" then some (J3.bJ t) else none
 |_=>none
theorem uV{ts:List Str}{r:List (List Str)}(h:ts.length≠2):ft (ts::r)=none:=by
 unfold ft
 split
 ·next e=>cases e;exact absurd rfl h
 ·rfl
def qa(X L:Addr)(H:Hp)(Q:VK)(E:XK):Prop:=∃(tss:List (List Str)),PtV H L tss/\(∀ts∈tss,J3.okT ts)/\(∀n H',ft tss=some n->Same H H'->Q (.int (n:Nat)) H')/\(ft tss=none->∀H',Same H H'->E (.ref X) none H')
def rW(X:Addr):Sp:=fun vs H Q E=>∃L:Addr,vs=[.ref L]/\qa X L H Q E
theorem An{X L:Addr}:rW X [.ref L] H Q E=qa X L H Q E:=propext ⟨by rintro ⟨_,e,q⟩;cases e;exact q,fun q=>zn _ rfl q⟩
def jE(K:W.Frag)(X a b:Addr)(H:Hp)(Q:VK)(E:XK):Prop:=∃(ins ns:List Str),SqL K H a (ins.map V.str)/\SqL K H b (ns.map V.str)/\(ins.length<=4->ns.length<=8->ns.Nodup->∀H',Same H H'->Q .non H')/\(¬(ins.length<=4/\ns.length<=8/\ns.Nodup)->∀H',Same H H'->E (.ref X) none H')
def ku(K:W.Frag)(X:Addr):Sp:=fun vs H Q E=>∃a b:Addr,vs=[.ref a,.ref b]/\jE K X a b H Q E
theorem uI{K:W.Frag}{X a b:Addr}:ku K X [.ref a,.ref b] H Q E=jE K X a b H Q E:=propext ⟨by rintro ⟨_,_,e,q⟩;cases e;exact q,fun q=>zAE _ _ rfl q⟩
def pZ(k:Str)(L:Addr)(st:Int)(H:Hp)(Q:VK):Prop:=∃(tss:List (List Str)) (j:Nat),PtV H L tss/\(∀ts∈tss,J3.okT ts)/\tss.length<=200/\st=(j:Int)/\
 ∀l H',Same H H'->H l=none->H' l=some (.lst ((J3.bK k (tss.drop j)).1.map V.str))->Q (.ref l) H'
def rT:Sp:=fun vs H Q _=>∃(k:Str)(L:Addr)(st:Int),vs=[.str k,.ref L,.int st]/\pZ k L st H Q
theorem vy{k:Str}{L:Addr}{st:Int}:rT [.str k,.ref L,.int st] H Q E=pZ k L st H Q:=propext ⟨by rintro ⟨_,_,_,e,q⟩;cases e;exact q,fun q=>zAI _ _ _ rfl q⟩
theorem fi(k:Str):∀ls:List (List Str),(J3.bK k ls).2=ls.drop (J3.bK k ls).1.length/\(∀n∈(J3.bK k ls).1,aX n=true)/\(∀i (h:i<(J3.bK k ls).1.length),ls[i]?=some [k,(J3.bK k ls).1[i]])/\(J3.bK k ls).1.length<=ls.length/\
  ∀ts,ls[(J3.bK k ls).1.length]?=some ts->ts.length=2->ts[0]?=some k->∀x,ts[1]?=some x->aX x=false
 | []=>zAH rfl (fun n hn=>by cases hn) (fun i h=>absurd h (sS _)) (zq9 _) (fun ts h=>by cases h)
 |l::r=>by
  rw [J3.bK]
  cases hd:J3.hdF k l with
  |none=>
   refine zAH rfl (fun n hn=>by cases hn) (fun i h=>absurd h (sS _)) (eC _) fun ts h h2 h0 x h1=>?_;obtain rfl:l=ts:=Option.some.inj h;obtain ⟨a,b,rfl⟩:=l8 h2
   cases h0;cases h1
   unfold J3.hdF at hd;dsimp only at hd;rw [zq1 rfl] at hd;cases hd
  |some x=>
   obtain rfl:=J3.kX hd;dsimp only
   by_cases hn:aX x=true
   ·rw [zq1 hn];obtain ⟨h1,h2,h3,h4,h5⟩:=fi k r;refine zAH h1 (fun n hn'=>?_) (fun i hi=>?_) (by simp only [List.length_cons];omega) (fun ts h=>h5 ts (by simpa using h))
    ·rcases zq4.mp hn' with z | z
     ·rw [z];exact hn
     ·exact h2 n z
    ·cases i with
     |zero=>rfl
     |succ i=>exact h3 i (by simpa using hi)
   ·rw [zq0 hn];refine zAH rfl (fun n hn=>by cases hn) (fun i h=>absurd h (sS _)) (eC _) fun ts h h2 h0 y h1=>?_;obtain rfl:[k,x]=ts:=Option.some.inj h
    cases h1
    simpa using hn
theorem qP(T:Txt K mg t):FnOk P w K mg base (CX1 P w) 1 t.f_107 t.e_107 ["ins","names"] (ku K t.X_NoProgram):=by
 refine T.d_107.F.okX yC ∅ ?_;rintro cdv A outer s H vs Q E hr ⟨a,b,rfl,ins,ns,ha,hb,q,e⟩;refine ⟨_,
   (XSs.h
   (ai
    (aD (am bG (ax aq gl T.z_len PySem.boot_len (aa (yqv 0 vl) af)) (bU (v:=.int 4) gl T.g_MOST_INS ⟨_,rfl⟩) (au _))
     (aj
      (bq bF rfl T.x_NoProgram T.q_NoProgram (aa ao af) gl))
     ay)
   (ai
    (aD (am bG (ax aq gl T.z_len PySem.boot_len (aa (yqv 1 vl) af)) (bU (v:=.int 8) gl T.g_MOST_BOXES ⟨_,rfl⟩) (au _))
     (aj
      (bq bF rfl T.x_NoProgram T.q_NoProgram (aa ao af) gl))
     ay)
   (aj
    (aD (am dP (ax nY gl T.z_len PySem.boot_len (aa (aQ (nZ rfl) gl T.z_set boot_set (aa (yqv 1 vl) af)) af)) (ax aq gl T.z_len PySem.boot_len (aa (yqv 1 vl) af)) (au _))
     (aj
      (bq bF rfl T.x_NoProgram T.q_NoProgram (aa ao af) gl))
     ay))))),?_⟩
 rw [show start _ [V.ref a,V.ref b]=[some (.ref a),some (.ref b)] from rfl];rwa [];refine zn _ (.inl ha) ?_;rw [zq2]
 by_cases h4:ins.length<=4
 ·rw [zq0 (by simp;omega)];refine zn _ (.inl hb) ?_;rw [zq2]
  by_cases h8:ns.length<=8
  ·rw [zq0 (by simp;omega)];refine zAD ns hb Jn fun p hp=>zn _ ae (zn _ (.inl ((Same.upd hp).seq hb)) ?_)
   by_cases hnd:ns.Nodup
   ·rw [((ee ns).2.2).mpr hnd,zq2,zq0 Jo];exact q h4 h8 hnd _ (Same.upd hp)
   ·rw [zq2,zq1 (by simpa using fun z=>hnd ((ee ns).2.2.mp Jn))];exact e (fun z=>hnd z.2.2) _ (Same.upd hp)
  ·rw [zq1 (by simp;omega)];exact e (fun z=>h8 z.2.1) _ (Same.refl _)
 ·rw [zq1 (by simp;omega)];exact e (fun z=>h4 z.1) _ (Same.refl _)
theorem xn(T:Txt K mg t):FnOk P w K mg base (CX1 P w) 3 t.f_105 t.e_105 ["parted"] (rW t.X_NoProgram):=by
 have G_109:=@ke P w K mg base t T;refine T.d_105.F.okX sc_105 ∅ ?_;rintro cdv A outer s H vs Q E hr ⟨L,rfl,tss,hL,hS,q,e⟩;refine ⟨_,
   (XSs.h
   (bh
    (aD (aW (bN (ce (iR (yqv 0 vl) (fun _=>rfl))) (bN (am dP (ax aq gl T.z_len PySem.boot_len (aa (aw aF (yqv 0 vl) ac) af)) ac (au _)) (c4 (am dP (aw aF (aw aF (yqv 0 vl) ac) ac) ao (au _))))))
     (aj
      (bq bF rfl T.x_NoProgram T.q_NoProgram (aa ao af) gl))
     ay)
   (ai
    (ar (i:=1) sc_105.nd rfl ll (aw aF (aw aF (yqv 0 vl) ac) ac))
   (bh
    (aD (aW (bN (ce (cO (aB T.d_109 G_109 hr.m (aa (yqv 1 vl) af) gl))) (c4 (ce (pB jv jv ac (aQ da gl T.z_int boot_int (aa (yqv 1 vl) af)) (bU (v:=.int 8) gl T.g_GREATEST_WIDTH ⟨_,rfl⟩))))))
     (aj
      (bq bF rfl T.x_NoProgram T.q_NoProgram (aa (dS hr.gd (g9 (n:=8) Jm hr) Jk (yqv 1 vl)) af) gl))
     ay)
   (aj
    (av (aQ da gl T.z_int boot_int (aa (yqv 1 vl) af)))))))),?_⟩
 rw [show start _ [V.ref L]=[some (.ref L),none] from rfl];simp_arith! [];obtain ⟨as,hL1,hA⟩:=hL
 cases tss with
 |nil=>
  cases hA
  refine zn (fun _ _=>False) ?_ fun _ _ h=>h.elim;refine zn _ (.inl (zn _ (SqL.of hL1) rfl)) ?_;rw [zq1 Jm];exact e rfl _ (Same.refl _)
 |cons ts r=>
  obtain ⟨a,ha,hf⟩:=L2.Paired.getR hA (i:=0) rfl;have h0:(as.map V.ref)[0]?=some (.ref a):=by rw [cA,ha];rfl
  have ne:(!(as.map V.ref).isEmpty)=true:=by
   cases as with
   |nil=>cases ha
   |cons=>rfl
  have hok:=hS ts (bV ..);refine zn (fun σ H'=>H'=H/\(∃x:Str,ts=[("width":Str),x])/\σ=[some (.ref L),none]) ?_ ?_
  ·refine zn _ (.inl (zn _ (SqL.of hL1) rfl)) ?_;rw [ne,zq0 Jm];refine zAA _ _ (SqL.of hL1) (bt h0) ?_;simp_arith! [];refine zn _ (.inl (SqL.of hf)) ?_;rw [zq2]
   by_cases h2:ts.length=2
   ·obtain ⟨k,x,rfl⟩:=l8 h2;rw [zq0 (by show ¬(! decide ((2:Int)=2))=true;decide)];refine zAA _ _ (SqL.of hL1) (bt h0) ?_;simp_arith! [];refine zAA _ _ (SqL.of hf) rfl ?_;simp_arith! []
    by_cases hk:k="width"
    ·rw [hk,zq0 Jm];exact ⟨x,rfl⟩
    ·rw [zq1 (by simpa using hk)];exact e (by unfold ft;dsimp only;rw [if_neg (fun z=>hk z.1)]) _ (Same.refl _)
   ·rw [zq1 (by simp;omega)];exact e (uV h2) _ (Same.refl _)
  rintro σ H1 ⟨rfl,⟨x,rfl⟩,rfl⟩;have hx:=hok.2.2 x Jo;refine ap ?_;simp_arith! [];refine zAA _ _ (SqL.of hL1) (bt h0) ?_;simp_arith! [];refine zAA _ _ (SqL.of hf) rfl (ap ?_);simp_arith! [ny];refine zn (fun σ H'=>Same H1 H'/\ft ([Str.ofString "width",x]::r)=some (J3.bJ x)/\(toString ((J3.bJ x:Nat):Int):Str)=x/\J3.bJ x<9/\σ=[some (.ref L),some (.str x)]) ?_ ?_
  ·refine zAB hx.1 (by have:=hx.2.2.1;omega) fun H2 s2=>?_
   cases hnb:c7 x with
   |false=>
    rw [zq1 Jm];exact ⟨.inl (zn _ rfl (fg hx)),e (by unfold ft;dsimp only;rw [if_neg (fun z=>by rw [hnb] at z;cases z.2.1)]) _ s2⟩
   |true=>
    rw [zq0 Jm];obtain ⟨h1,h3⟩:=J3.jd hnb (hx.2.2.2 hnb);unfold hZ;simp_arith! [];refine zAF (J3.bJ x:Nat) (by rw [h1]) Jn Jn ?_
    by_cases hz:1<=J3.bJ x
    ·rw [zq1 (by simp;omega)]
     by_cases h9:J3.bJ x<9
     ·rw [zq0 (by simp;omega)];refine zAG s2 ?_ h1 h9;unfold ft;dsimp only;rw [zq1 ⟨rfl,hnb,h9,fun z=>by rw [z] at hz;exact absurd hz Jk⟩]
     ·rw [zq1 (by simp;omega)];exact ⟨.inl (zn _ rfl (fg hx)),e (by unfold ft;dsimp only;rw [if_neg (fun z=>h9 z.2.2.1)]) _ s2⟩
    ·rw [zq0 (by simp;omega)];have hx0:x="0":=by
      rw [<- h1,show J3.bJ x=0 by omega]
      decide +kernel
     rw [zq1 Jo];exact ⟨.inl (zn _ rfl (fg hx)),e (by unfold ft;dsimp only;rw [if_neg (fun z=>z.2.2.2 hx0)]) _ s2⟩
  rintro σ H2 ⟨s2,hw,h1,h9,rfl⟩;refine ap ?_;simp_arith! [];exact zAF (J3.bJ x:Nat) (by rw [h1]) Jn Jn (q _ _ hw s2)
theorem xm(T:Txt K mg t):FnOk P w K mg base CX0 3 t.f_106 t.e_106 ["word","parted","start"] rT:=by
 have G_108:=@oJ P w K mg base t T;refine T.d_106.F.ok sc_106 ∅ ?_;rintro cdv A outer s H vs Q E hr ⟨k,L,st,rfl,tss,j,hL,hS,hl,rfl,q⟩;refine ⟨_,
   (XSs.h
   (ai
    (ar (i:=3) sc_106.nd rfl ll (aH af))
   (bh
    (cc PassesOwn.never rfl (cr (aV bu (yqv 1 vl) (aZ (yqv 2 vl)) bj)) (aK (i:=4) sc_106.nd rfl ll)
     (ai
      (aD (aW (bN (am dP (ax aq gl T.z_len PySem.boot_len (aa (yqv 4 vl) af)) ac (au _)) (bN (am dP (aw aF (yqv 4 vl) ac) (yqv 0 vl) (au _)) (c4 (ce (cO (aB T.d_108 G_108 hr.m (aa (aw aF (yqv 4 vl) ac) af) gl)))))))
       (aj
        pw)
       ay)
     (aj
      (aR (bS PySem.F.plainAttrs_list PySem.F.slot_list_append PySem.F.type_list_append bo (yqv 3 vl) (aa (aw aF (yqv 4 vl) ac) af))))))
   (aj
    (av (yqv 3 vl)))))),?_⟩
 rw [show start _ [V.str k,V.ref L,V.int (j:Int)]=[some (.str k),some (.ref L),some (.int j),none,none] from rfl];simp_arith! [cX];intro l0 hl0;refine ap ?_;simp_arith! [cX];obtain ⟨as,hL1,hA⟩:=hL;have s0:=Same.upd (o:=.lst []) hl0;obtain ⟨_,hn1,hn2,hn3,hn4⟩:=fi k (tss.drop j);generalize (J3.bK k (tss.drop j)).1=ns at hn1 hn2 hn3 hn4 q;have ld:(tss.drop j).length<=200:=by rw [jy];omega
 refine ⟨fun σ H'=>Same H H'/\H' l0=some (.lst (ns.map V.str))/\∃o4,σ=[some (.str k),some (.ref L),some (.int j),some (.ref l0),o4],?_,?_⟩
 ·refine zn _ (SqL.of (s0 _ _ hL1)) fun ps hps=>?_;rw [dZ Jn,eQ];have s1:=s0.trans (Same.upd (o:=.lst ((as.map V.ref).drop j)) hps);have la:=hA.length;have lD:((as.map V.ref).drop j).length=(tss.drop j).length:=by rw [jy,zq2,la,jy]
  refine ⟨⟨_,SqL.of ae⟩,eZ (xs:=(as.map V.ref).drop j) (fun i σ H'=>i<=ns.length/\Same H H'/\H' ps=some (.lst ((as.map V.ref).drop j))/\H' l0=some (.lst ((ns.take i).map V.str))/\∃o4,σ=[some (.str k),some (.ref L),some (.int j),some (.ref l0),o4]) (zAH (eC _) s1 ae (Same.upd hps _ _ ae) ⟨_,rfl⟩) ?_ ?_ ?_⟩
  ·rintro i σ H' _ ⟨_,_,h,_⟩;exact SqL.of h
  ·rintro i x σ H1 hxi ⟨hi,sm,hps1,hl1,o4,rfl⟩;rw [List.getElem?_drop,cA] at hxi;obtain ⟨a,ha,rfl⟩:=zq46.mp hxi;obtain ⟨ts,hts,hf⟩:=L2.Paired.get hA ha;have hf1:=sm _ _ hf;have hokt:=hS ts (dr hts);rw [<- List.getElem?_drop] at hts;simp_arith! [cX];refine zn _ (.inl (SqL.of hf1)) ?_
   by_cases hlt:i<ns.length
   ·rw [hn2 i hlt] at hts;obtain rfl:[k,ns[i]]=ts:=Option.some.inj hts;have hnm:=hn1 _ (pG hlt);have hok:=bg hnm;rw [zq0 (by show ¬(! decide ((2:Int)=2))=true;decide)];refine zAA _ _ (SqL.of hf1) rfl ?_;simp_arith! [cX];rw [zq0 Jo];refine zAA _ _ (SqL.of hf1) rfl ?_;rw [cX];refine zAB hok.1 (by have:=hok.2.2;omega) fun H2 s2=>zn _ rfl ?_;rw [hnm,zq0 Jm];refine ap ?_;simp_arith! [];refine ⟨.inl ⟨rfl,_,SqL.of (s2 _ _ hl1)⟩,zAA _ _ (SqL.of (s2 _ _ hf1)) rfl ⟨_,zAV (s2 _ _ hl1) ?_ hlt ((sm.trans s2).updM hl0) ?_ ?_ ⟨_,rfl⟩⟩⟩
    ·rw [zq2,gh,zq3];omega
    ·rw [aE (aA ae hps).symm];exact s2 _ _ hps1
    ·rw [ae,fP hlt,bI];rfl
   ·have hie:i=ns.length:=by omega
    subst hie;rw [fQ] at hl1
    by_cases h2:ts.length=2
    ·obtain ⟨k',x,rfl⟩:=l8 h2;rw [zq0 (by show ¬(! decide ((2:Int)=2))=true;decide)];refine zAA _ _ (SqL.of hf1) rfl ?_;simp_arith! [cX]
     by_cases hk:k'=k
     ·subst hk;rw [zq0 Jo];refine zAA _ _ (SqL.of hf1) rfl ?_;rw [cX];have hx:=hokt.2.2 x Jo;refine zAB hx.1 (by have:=hx.2.2.1;omega) fun H2 s2=>zn _ rfl ?_;rw [hn4 _ hts rfl rfl x rfl,zq1 Jm];exact zAB (sm.trans s2) (s2 _ _ hl1) ⟨_,rfl⟩
     ·rw [zq1 (by simpa using hk),zq1 trivial];exact zAB sm hl1 ⟨_,rfl⟩
    ·rw [zq2,zq1 (by simp;omega),zq1 trivial];exact zAB sm hl1 ⟨_,rfl⟩
  ·rintro σ H1 ⟨hi,sm,hps1,hl1,o4,rfl⟩;have hie:((as.map V.ref).drop j).length=ns.length:=by omega
   rw [hie,fQ] at hl1;exact zAB sm hl1 ⟨_,rfl⟩
 rintro σ H1 ⟨s1,hl1,o4,rfl⟩;refine ap ?_;simp_arith! [];exact q l0 H1 s1 hl0 hl1
def mC(K:W.Frag)(C X:Addr)(l:Addr)(H:Hp)(Q:VK)(E:XK):Prop:=∃(tss:List (List Str)),H l=some (.lst ((tss.map jn).map V.str))/\(∀ts∈tss,J3.okT ts)/\tss.length<=200/\
 (∀n p wd ins oth ss a b r xs f H',J3.stF tss=some n->Same H H'->H p=none->ProgAt K C H' p wd ins oth ss a b r xs f->aJ ss=n->aY ss<=8->n<=40->Q (.ref p) H')/\(J3.stF tss=none->∀H',Same H H'->E (.ref X) none H')
def nK(K:W.Frag)(C X:Addr):Sp:=fun vs H Q E=>∃l:Addr,vs=[.ref l]/\mC K C X l H Q E
theorem yt{K:W.Frag}{C X l:Addr}{H:Hp}{Q:VK}{E:XK}:nK K C X [.ref l] H Q E=mC K C X l H Q E:=propext ⟨by rintro ⟨_,e,q⟩;cases e;exact q,fun q=>zn _ rfl q⟩
theorem uS{tss:List (List Str)}(h:ft tss=none):J3.stF tss=none:=by
 unfold J3.stF
 split
 ·next w t r=>
  unfold ft at h;dsimp only at h
  split at h
  ·cases h
  ·next z=>rw [zq0 z]
 ·rfl
theorem uT{tss:List (List Str)}{n:Nat}(h:ft tss=some n):J3.stF tss=J3.ir (2 ^ n) (tss.drop 1)/\1<=n/\n<=8:=by
 unfold ft at h
 split at h
 ·next w t r=>
  split at h
  ·next z=>
   cases h
   refine zAB (by unfold J3.stF;dsimp only;rw [if_pos z];rfl) ?_ (by have:=z.2.2.1;omega)
   by_cases h0:1<=J3.bJ t
   ·exact h0
   ·exfalso;refine z.2.2.2 ?_;have z2:=z.2.1;have e0:J3.bJ t=0:=by omega
    exact J3.qI z2 e0
  ·cases h
 ·cases h
theorem fR{α β:Type}{F:α->β->Prop}{a:α}{b:β}(hf:F a b):∀{l₁:List α} {l₂:List β},Paired F l₁ l₂->Paired F (l₁++[a]) (l₂++[b])
 |_,_,.nil=>.cons hf .nil
 |_,_,.cons h t=>.cons h (fR hf t)
theorem gv{α β:Type}{F G:α->β->Prop}:∀{l₁:List α} {l₂:List β},Paired F l₁ l₂->(∀a∈l₁,∀b∈l₂,F a b->G a b)->Paired G l₁ l₂
 |_,_,.nil,_=>.nil
 |_,_,.cons h t,hi=>.cons (hi _ (bV ..) _ (bV ..) h) (gv t fun a ha b hb=>hi a (bH _ ha) b (bH _ hb))
theorem ya{C p a0 b0 r0:Addr}{d:Nat}{wd:Int}{H:Hp}{Q:VK}{E:XK}:nC K C d [.ref p,.int wd,.ref a0,.ref b0,.ref r0] H Q E=mt K C d p a0 b0 r0 wd H Q:=propext ⟨by rintro ⟨_,_,_,_,_,e,q⟩;cases e;exact q,fun q=>zAT _ _ _ _ _ ⟨rfl,q⟩⟩
theorem um(T:Txt K mg t):FnOk P w K mg base (CX1 P w) 44 t.f_104 t.e_104 ["lines"] (nK K t.C_Program t.X_NoProgram):=by
 have G_105:=@xn P w K mg base t T;have G_106:=@xm P w K mg base t T;have G_107:=@qP P w K mg base t T;have G_110:=@qV P w K mg base t T;have G_111:=@qL P w K mg base t T;have G_100:=@uk P w K mg base t T 9;refine T.d_104.F.okX sc_104 ∅ ?_;rintro cdv A outer s H vs Q E hr ⟨l,rfl,tss,hl,hok,hlen,q,e⟩;refine ⟨_,
   (XSs.h
   (ai
    (kI (i:=1) sc_104.nd rfl ll rfl Jl (tns:=["line"]) (cns:=[]) (ci:=[]) rfl (CompSc.of Jl) (cr (yqv 0 vl)) (fun _=>(aK (i:=1) (show List.Nodup [(".0":Str),("line":Str)] by decide +kernel) rfl ll (Or.inr Jl))) (fun _=>cq) (fun _=>(bS PySem.F.plainAttrs_str PySem.F.slot_str_split PySem.F.type_str_split fb (yqv 1 vl) (aa ao af))))
   (ai
    (ar (i:=2) sc_104.nd rfl ll (iS T.d_105 G_105 hr.m ba (aa (yqv 1 vl) af) gl))
   (ai
    (ar (i:=3) sc_104.nd rfl ll (aB T.d_106 G_106 hr.m (aa ao (aa (yqv 1 vl) (aa ac af))) gl))
   (ai
    (ar (i:=4) sc_104.nd rfl ll (aB T.d_106 G_106 hr.m (aa ao (aa (yqv 1 vl) (aa (ak aL ac (ax aq gl T.z_len PySem.boot_len (aa (yqv 3 vl) af))) af))) gl))
   (ai
    (ar (i:=5) sc_104.nd rfl ll (ak aT (yqv 3 vl) (yqv 4 vl)))
   (ai
    (aR (iS T.d_107 G_107 hr.m ba (aa (yqv 3 vl) (aa (yqv 5 vl) af)) gl))
   (ai
    (ar (i:=6) sc_104.nd rfl ll (eP T.c_RowReader.cl T.d_111 G_111 hr.m ba (iT T.c_RowReader T.d_110 G_110 hr.m (aa (aV bu (yqv 1 vl) (aZ (ak aL ac (ax aq gl T.z_len PySem.boot_len (aa (yqv 5 vl) af)))) bj) (aa (yqv 2 vl) (aa (yqv 5 vl) af))) gl)))
   (aj
    (av (iT T.c_Program T.d_100 G_100 hr.m (aa (yqv 2 vl) (aa (yqv 3 vl) (aa (yqv 4 vl) (aa (yqv 6 vl) af)))) gl))))))))))),?_⟩
 rw [show start _ [V.ref l]=[some (.ref l),none,none,none,none,none,none] from rfl];simp_arith! [];refine ⟨⟨_,SqL.of hl⟩,fun acc hacc bk=>?_⟩;refine iY (xs:=(tss.map jn).map V.str) (fun i ys H'=>Same H H'/\H' acc=some (.lst ys)/\ys.length=i/\∃as:List Addr,ys=as.map V.ref/\(∀c∈as,c≠acc)/\Paired (fun a ts=>H' a=some (.lst (ts.map V.str))) as (tss.take i)) ?_ ?_ ?_ ?_
 ·exact zAG (Same.upd hacc) ae rfl (zAD ([]) rfl (fun c hc=>(by cases hc)) .nil)
 ·intro i ys H' _ h;exact SqL.of (h.1 _ _ hl)
 ·rintro i x ys H1 os hxi ho ⟨sm,hacc1,ly,as,rfl,hna,hA⟩
  match os,ho with
  | [o],_=>
   rw [cA,cA] at hxi;obtain ⟨j,hj,rfl⟩:=zq46.mp hxi;obtain ⟨ts,hts,rfl⟩:=zq46.mp hj;have hi:i<tss.length:=(zq17.mp hts).1;have hse:tss[i]=ts:=(zq17.mp hts).2;have hk:=hok ts (dr hts);rwa [];refine ⟨zn ([some (.str (jn ts))]) rfl rfl,?_⟩;rw [zq1 trivial];refine zAK (jn ts) (" ") rfl rfl Jk (by have:=J3.u0 hk;omega) fun l1 hl1=>?_;rw [J3.jr hk];have s1:=Same.upd (o:=.lst (ts.map V.str)) hl1;have na1:l1≠acc:=(aA hacc1 hl1).symm;refine zAP (s1 _ _ hacc1) (by rw [zq3];omega) ((sm.trans s1).updM hacc) ae (by simp [ly]) (zAD (as++[l1]) (by rw [bI];rfl) (fun c hc=>?_) ?_)
   ·rcases zq10.mp hc with z | z
    ·exact hna c z
    ·rw [zq15.mp z];exact na1
   ·rw [fP hi,hse];refine fR (by rw [aE na1];exact ae) (gv hA fun a ha ts _ e=>?_);rw [aE (hna a ha)];exact s1 _ _ e
 rintro ys H1 ⟨s1,hacc1,ly,as,rfl,hna,hA⟩;rw [zq2,zq2,fQ] at hA;have hP1:PtV H1 acc tss:=zn as hacc1 hA
 refine ap ?_;simp_arith! [An];refine zAF tss hP1 hok (fun wd H2 hwd s2=>ap ?_) fun hwd H2 s2=>e (uS hwd) _ (s1.trans s2);obtain ⟨hst,w1,w8⟩:=uT hwd;rw [J3.tU] at hst;simp_arith! [vy];have hP2:PtV H2 acc tss:=hP1.mv fun c xs e=>s2 _ _ e;refine zAK tss 1 hP2 hok hlen rfl fun pi H3 s3 hpi hei=>ap ?_;obtain ⟨hi1,_,_,hi3,_⟩:=fi "in" (tss.drop 1);rw [hi1] at hst;generalize (J3.bK "in" (tss.drop 1)).1=ins at hst hei hi3;rw [List.drop_drop] at hst;simp_arith! [vy];have s03:=(s1.trans s2).trans s3;have hP3:PtV H3 acc tss:=hP2.mv fun c xs e=>s3 _ _ e;refine zn _ (.inl (SqL.of hei)) ?_;refine zAK tss (1+ins.length) hP3 hok hlen (by rw [zq2];omega) fun po H4 s4 hpo heo=>ap ?_;obtain ⟨ho1,_,_,ho3,_⟩:=fi "box" (tss.drop (1+ins.length));rw [ho1] at hst;generalize (J3.bK "box" (tss.drop (1+ins.length))).1=oth at hst heo ho3;rw [List.drop_drop,Nat.add_assoc] at hst;rw [jy] at hi3 ho3;have hiL:ins.length<=200:=by omega
 have hoL:oth.length<=200:=by omega
 simp_arith! [];have hei4:=s4 _ _ hei;refine zAC _ _ hei4 heo (by rw [zq2,zq2,zq3];omega) fun pn hpn=>ap ?_;have s5:=Same.upd (o:=.lst (ins.map V.str++oth.map V.str)) hpn;have hen:upd H4 pn (.lst (ins.map V.str++oth.map V.str)) pn=some (.lst ((ins++oth).map V.str)):=by rw [ae,bI]
 have s05:=(s03.trans s4).trans s5;have hei5:=s5 _ _ hei4;have heo5:=s5 _ _ heo;have hP5:PtV (upd H4 pn (.lst (ins.map V.str++oth.map V.str))) acc tss:=hP3.mv fun c xs e=>s5 _ _ (s4 _ _ e);generalize upd H4 pn (.lst (ins.map V.str++oth.map V.str))=H5 at s5 hen s05 hei5 heo5 hP5 ⊢;clear s5 hpn s4 hei4 heo hei hP3 s03 s3 s2 hP1 hpo hpi hP2;simp_arith! [uI];refine zAC ins (ins++oth) (SqL.of hei5) (SqL.of hen) (fun li ln hnd H6 s6=>ap ?_) (fun hno H6 s6=>e (by rw [hst,zq0 hno]) _ (s05.trans s6));rw [zq1 ⟨li,ln,hnd⟩] at hst;simp_arith! [];have hen6:=s6 _ _ hen;obtain ⟨as6,hL6,hA6⟩:PtV H6 acc tss:=hP5.mv fun c xs e=>s6 _ _ e;refine zn _ (.inl (SqL.of hen6)) ?_;refine zn _ (SqL.of hL6) fun ps hps=>?_;have lN:(ins++oth).length=ins.length+oth.length:=cf;rw [dZ Jn,show (1+((List.map V.str (ins++oth)).length:Int)).toNat=1+(ins.length+oth.length) by rw [zq2,lN];omega];have s7:=Same.upd (o:=.lst ((as6.map V.ref).drop (1+(ins.length+oth.length)))) hps;have hP7:PtV (upd H6 ps (.lst ((as6.map V.ref).drop (1+(ins.length+oth.length))))) ps (tss.drop (1+(ins.length+oth.length))):=by refine zn (as6.drop (1+(ins.length+oth.length))) (by rw [ae,pH]) ?_;exact (L2.Paired.drop _ hA6).mono fun a ts e=>s7 _ _ e
 have s07:=(s05.trans s6).trans s7;have hen7:=s7 _ _ hen6;have hei7:=s7 _ _ (s6 _ _ hei5);have heo7:=s7 _ _ (s6 _ _ heo5);generalize upd H6 ps (.lst ((as6.map V.ref).drop (1+(ins.length+oth.length))))=H7 at s7 hP7 s07 hen7 hei7 heo7 ⊢;clear s7 hps hA6 hL6 hen6 s6 hP5 heo5 hei5 hen s05 hacc1 hA s1;intro px dx hpx hdx hne;simp_arith! [uM];have s8:Same H7 (upd (upd H7 dx (.own px)) px (.ins t.C_RowReader dx [])):=(Same.upd hdx).updM hpx;have p8:2 ^ ((wd:Int)).toNat<=256:=by rw [eQ];exact gf (mi Jm w8) Jm
 refine zAW dx (tss.drop (1+(ins.length+oth.length))) (ins++oth) ae (hP7.mv fun c xs e=>s8 _ _ e) (s8 _ _ hen7) Jn Jn fun H9 sx9 hR9=>⟨rfl,?_⟩;have s9:Same H7 H9:=fun c' o' e=>sx9 c' o' (s8 _ _ e) (aA e hpx);obtain ⟨dx9,hp9⟩:=id hR9.ob;refine bi hp9 rfl ?_;rw [uz];have hSt:StT (tss.drop (1+(ins.length+oth.length))) (2 ^ ((wd:Int)).toNat):=zAB (fun ts ht=>hok ts (tf ht)) p8 (by rw [jy];omega)
 refine zAT ps pn (tss.drop (1+(ins.length+oth.length))) (ins++oth) (2 ^ ((wd:Int)).toNat) (zAG hR9 hSt (fun r ys g ss H10 sx10 hr10 hs10 hf10 hB hd8 hm40=>ap ?_) (fun H10 sx10 hB=>e (by rw [hst];exact hB) _ (s07.trans fun c' o' e=>sx10 c' o' (s9 _ _ e) (aA e hpx))));have s10:Same H7 H10:=fun c' o' e=>sx10 c' o' (s9 _ _ e) (aA e hpx);have s010:=s07.trans s10;have hei10:=s10 _ _ hei7;have heo10:=s10 _ _ heo7;clear sx10 sx9 hR9 s8 s9;simp_arith! [];intro pp dp hpp hdp hnp;simp_arith! [ya];have s11:Same H10 (upd (upd H10 dp (.own pp)) pp (.ins t.C_Program dp [])):=(Same.upd hdp).updM hpp;refine zBN dp ins oth ys ss g (zBA ae (s11 _ _ hei10) (s11 _ _ heo10) (s11 _ _ hr10) (hs10.same s11) Jn Jn Jn Jn fun a' b' r' ys' g' H12 sx hPr _ _=>⟨rfl,?_⟩);have s12:Same H10 H12:=fun c' o' e=>sx c' o' (s11 _ _ e) (aA e hpp);exact q (aJ ss) pp wd ins oth ss a' b' r' ys' g' H12 (by rw [hst];exact hB) (s010.trans s12) (s010.free hpp) hPr rfl hd8 hm40
variable {ss:List Stm}
def kwv(k:Str):V->V
 | .str s=>.str (k++s)
 |v=>v
theorem mU{k l:Str}(h:k++" "=l) (ns:List Str):(ns.map V.str).map (kwv l)=((ns.map fun n=>[k,n]).map jn).map V.str:=by rw [mf,mf,mf];refine List.map_congr_left fun n _=>?_;show V.str (l++n)=V.str (jn [k,n]);rw [mT h]
theorem iy{i:Int}(h0:0<=i)(h1:i<256):i.natAbs.log2<1920:=by
 by_cases z:i.natAbs=0
 ·rw [z];decide
 ·rw [Nat.log2_lt z]
  calc i.natAbs<2 ^ 8:=by omega
   _<=2 ^ 1920:=mi Jm Jm
theorem iq{ns:List Str}{w:Int}{s:Stm}:∀{ss:List Stm},c5 ns w ss->s∈ss->s.good ns w
 | [],_,h=>by cases h
 |t::ss,g,h=>by
  rw [c5] at g;rcases zq4.mp h with rfl | h
  ·exact g.1
  ·exact iq g.2 h
theorem lr{i:Nat}:aJ (ss.take i)<=aJ ss:=by
 have:aJ (ss.take i++ss.drop i)=aJ ss:=by rw [wF]
 rw [cm] at this;omega
theorem gL{al:Bool}:(ln al ss).length<=3 * aJ ss:=by unfold ln;rw [zq2];exact fF ss
theorem u9{al:Bool}{s:Stm}:ln al (ss++[s])=ln al ss++(sT al s).map jn:=by unfold ln;rw [iw,bI,lT,lT,gg]
theorem tQ{H:Hp}{a b:Addr}{xs zs:List V}{Q:VK}(ha:H a=some (.lst xs))(hb:H b=some (.lst zs))(hl:xs.length+zs.length<=100000)(h:∀p,H p=none->Q (.ref p) (upd H p (.lst (xs++zs)))):xF (.ref a) (.ref b) H Q:=zAN _ _ _ _ (zAP rfl rfl ha hb (by rw [zq3];omega) h)
theorem qu{g:TG}{tb:TS}{D:cG}{σ:L2.St}{H:Hp}{x:Str}(Pv:Nat->L2.St->Hp->Prop)(h0:Pv 0 σ H)
 (hs:∀(i:Nat)c σ H,x.cps.toList[i]?=some c->Pv i σ H->g (.str ⟨#[c]⟩) σ H fun σ2 H2=>tb {D with nx:=Pv (i+1),ct:=Pv (i+1),bk:=D.nx} σ2 H2) (hd:∀σ H,Pv x.cps.toList.length σ H->D.nx σ H):nO (Its x) g tb D σ H:=by
 have hz:x.cps.toList.length=x.cps.size:=by simp
 refine zn (fun i m σ H=>m=x.cps.size-i/\i<=x.cps.size/\Pv i σ H) (zAD x.cps.size Jo (eC _) h0) ?_;rintro i m σ H ⟨rfl,hi,p⟩
 by_cases hlt:i<x.cps.size
 ·refine .inr ⟨hlt,zn (Pv (i+1)) (fun σ' H' p'=>zAF (x.cps.size-(i+1)) Jn rfl hlt p') fun y H' yl=>?_⟩;obtain ⟨rfl,c,hc,rfl⟩:=yl;exact hs i c σ _ (by simpa using hc) p
 ·have e:i=x.cps.size:=by omega
  subst e;exact .inl ⟨zq9 _,hd σ H (by rw [hz];exact p)⟩
def jG(K:W.Frag)(wd:Int)(a b:Addr)(H:Hp)(Q:VK):Prop:=∃(ins oth:List Str),H a=some (.lst (ins.map V.str))/\H b=some (.lst (oth.map V.str))/\ins.length<=1000/\oth.length<=1000/\NW (ins++oth) wd/\
 ∀l H',Same H H'->H l=none->H' l=some (.lst (((hT wd ins oth).map jn).map V.str))->Q (.ref l) H'
def kz(K:W.Frag):Sp:=fun vs H Q _=>∃(wd:Int)(a b:Addr),vs=[.int wd,.ref a,.ref b]/\jG K wd a b H Q
theorem uK{K:W.Frag}{wd:Int}{a b:Addr}{H:Hp}{Q:VK}{E:XK}:kz K [.int wd,.ref a,.ref b] H Q E=jG K wd a b H Q:=propext ⟨by rintro ⟨_,_,_,e,q⟩;cases e;exact q,fun q=>zAI _ _ _ rfl q⟩
theorem qR(T:Txt K mg t):FnOk P w K mg base CX0 1 t.f_130 t.e_130 ["_law_width","_law_ins","_law_others"] (kz K):=by
 refine T.d_130.F.ok yO ∅ ?_;rintro cdv A outer s H vs Q E hr ⟨wd,a,b,rfl,ins,oth,ha,hb,li,lo,hN,q⟩;refine ⟨_,
   (XSs.h
   (aj
    (av (ak aT (ak aT (aH (aa (ak aC ao (aQ eU gl T.z_str boot_str (aa (yqv 0 vl) af))) af)) (bM (tns:=["_law_name_here"]) (cns:=[]) (ci:=[]) rfl (CompSc.of Jl) (cr (yqv 1 vl)) (fun _=>(aK (i:=1) (show List.Nodup [(".0":Str),("_law_name_here":Str)] by decide +kernel) rfl ll (Or.inr Jl))) (fun _=>cq) (fun _=>(ak aC ao (yqv 1 vl))))) (bM (tns:=["_law_name_here"]) (cns:=[]) (ci:=[]) rfl (CompSc.of Jl) (cr (yqv 2 vl)) (fun _=>(aK (i:=1) (show List.Nodup [(".0":Str),("_law_name_here":Str)] by decide +kernel) rfl ll (Or.inr Jl))) (fun _=>cq) (fun _=>(ak aC ao (yqv 1 vl)))))))),?_⟩
 rw [show start _ [V.int wd,V.ref a,V.ref b]=[some (.int wd),some (.ref a),some (.ref b)] from rfl];simp_arith! [];have hnum:=jc hN.2.1 (show wd<256 by have:=hN.2.2;omega);have hwl:=hnum.2.1.2.2;refine zAB (iy hN.2.1 (by have:=hN.2.2;omega)) ?_ fun l hl=>?_
 ·rw [zq3,show (Str.ofString "width ").length=6 by decide +kernel];have:(Str.ofString (toString wd)).length<=20:=hwl;omega
 have s1:=Same.upd (o:=.lst [V.str (Str.ofString "width "++Str.ofString (toString wd))]) hl;refine ⟨⟨_,SqL.of (s1 _ _ ha)⟩,fun acc hacc bk=>?_⟩;refine mG (kwv "in ") (by rw [zq2,zq3];omega) (SqL.of (s1 _ _ ha)) hacc (fun x hx H' Q' sm hh=>?_) ?_
 ·obtain ⟨n,hn,rfl⟩:=zq37.mp hx;rwa [];refine ⟨?_,hh⟩;have:=(bg (hN.1 n (jx _ hn))).2.2;rw [zq3,show (Str.ofString "in ").length=3 by decide +kernel];omega
 rw [mU (k:="in") (l:="in ") Jk];have s2:=s1.trans (Same.upd (o:=.lst (((ins.map fun n=>[("in":Str),n]).map jn).map V.str)) hacc);refine zAC _ _ ((Same.upd hacc) _ _ ae) ae (by rw [zq3];simp only [List.length_map,List.length_cons,List.length_nil];omega) fun p3 hp3=>?_;have s3:=s2.trans (Same.upd (o:=.lst ([V.str (Str.ofString "width "++Str.ofString (toString wd))]++((ins.map fun n=>[("in":Str),n]).map jn).map V.str)) hp3);refine ⟨⟨_,SqL.of (s3 _ _ hb)⟩,fun acc2 hacc2 bk2=>?_⟩;refine mG (kwv "box ") (by rw [zq2,zq3];omega) (SqL.of (s3 _ _ hb)) hacc2 (fun x hx H' Q' sm hh=>?_) ?_
 ·obtain ⟨n,hn,rfl⟩:=zq37.mp hx;rwa [];refine ⟨?_,hh⟩;have:=(bg (hN.1 n (d8 _ hn))).2.2;rw [zq3,show (Str.ofString "box ").length=4 by decide +kernel];omega
 rw [mU (k:="box") (l:="box ") Jk];have s4:=s3.trans (Same.upd (o:=.lst (((oth.map fun n=>[("box":Str),n]).map jn).map V.str)) hacc2);refine zAC _ _ ((Same.upd hacc2) _ _ ae) ae (by rw [zq3];simp only [List.length_map,List.length_cons,List.length_nil,List.length_append];omega) fun p5 hp5=>?_;refine q p5 _ (s4.trans (Same.upd hp5)) (s4.free hp5) ?_;rw [ae];unfold hT;rw [dX,bI,dX,bI,mT (l:="width ") Jk];simp only [List.append_assoc,List.cons_append,List.nil_append]
def ic(K:W.Frag)(d:Nat)(a:Addr)(H:Hp)(Q:VK):Prop:=∃(xs:List V)(ss:List Stm)(f:List Addr)(ns:List Str)(w:Int),H a=some (.lst xs)/\StmsV K H xs ss f/\aY ss<d/\aJ ss<=1000/\NW ns w/\c5 ns w ss/\
 ∀p H',Same H H'->H p=none->H' p=some (.lst ((ln false ss).map V.str))->Q (.ref p) H'
def eh(K:W.Frag)(d:Nat):Sp:=fun vs H Q _=>∃(a:Addr),vs=[.ref a]/\ic K d a H Q
theorem bL{K:W.Frag}{d:Nat}{a:Addr}{H:Hp}{Q:VK}{E:XK}:eh K d [.ref a] H Q E=ic K d a H Q:=propext ⟨by rintro ⟨_,e,q⟩;cases e;exact q,fun q=>zn _ rfl q⟩
def vd(xs:List V)(x:Str):Prop:=xs=[.str x]\/∃i:Int,xs=[.int i]/\i.natAbs.log2<1920/\x=toString i
theorem dY{X:Cx}:cv X (.type "str") (fun xs H Q=>∃x:Str,vd xs x/\Q (.str x) H):=by
 intro pins s σ H xs us Q I r h;obtain ⟨x,h | ⟨i,h1,h2,rfl⟩,q⟩:=h
 ·exact ik pins s σ H xs us Q I r (.inr (zn x h q))
 ·exact ik pins s σ H xs us Q I r (.inl (zAD i h1 h2 q))
theorem ei{ns:List Str}{w:Int}{o:Opd}(hN:NW ns w)(h:Opd.good ns w o):vd [o.v] (otx o):=by
 cases o with
 |box n=>exact .inl rfl
 |word i=>
  have p:(2:Int) ^ w.toNat<=2 ^ 8:=by
   have:=hN.2.2
   exact_mod_cast mi Jm Jn
  exact .inr (zAD i rfl (iy h.1 (by have:=h.2;omega)) rfl)
theorem lf:(Str.ofString "tell ").length=5/\(Str.ofString " = ").length=3/\(Str.ofString " ").length=1/\(Str.ofString "if").length=2/\(Str.ofString "while").length=5:=by decide +kernel
theorem qi{d:Deed}(hf:d.fine):∃k0,atI d.vs 0=some (.str k0)/\inV (.str k0) [.str "if",.str "while"]=false:=by
 have ho:∀k∈FB.opsL,inV (.str k) [.str "if",.str "while"]=false:=by decide +kernel
 cases d with
 |tell o=>exact zn _ rfl Jk
 |copy n o=>exact zn _ rfl Jk
 |op k n o p=>exact zn _ rfl (ho k hf)
theorem jX(T:Txt K mg t)(d:Nat)(G_129:FnOk P w K mg base CX0 (d+1) t.f_129 t.e_129 ["_law_rows"] (eh K d)):FnOk P w K mg base CX0 (d+2) t.f_129 t.e_129 ["_law_rows"] (eh K (d+1)):=by
 refine T.d_129.F.ok sc_129 ∅ ?_;rintro cdv A outer s H vs Q E hr ⟨a,rfl,xs,ss,f,ns,w,ha,hx,hd,hm,hN,hg,q⟩;refine ⟨_,
   (XSs.h
   (ai
    (ar (i:=1) sc_129.nd rfl ll (aH af))
   (ai
    (cc PassesOwn.never rfl (cr (yqv 0 vl)) (aK (i:=2) sc_129.nd rfl ll)
     (aj
      (aD (am cS (aw b5 (yqv 2 vl) ac) (bb (bp Jp)) rfl)
       (ai
        (ar (i:=1) sc_129.nd rfl ll (ak aT (ak aT (yqv 1 vl) (aH (aa (ak aC (ak aC (aw b5 (yqv 2 vl) ac) ao) (aw b5 (yqv 2 vl) ac)) af))) (aB T.d_129 G_129 hr.m (aa (aw b5 (yqv 2 vl) ac) af) gl)))
       (bh
        (aD (aW (bc (am aU (aw b5 (yqv 2 vl) ac) ao (au _)) (b9 (am bG (ax aq gl T.z_len PySem.boot_len (aa (aw b5 (yqv 2 vl) ac) af)) ac (au _)))))
         (aj
          (ar (i:=1) sc_129.nd rfl ll (ak aT (ak aT (yqv 1 vl) (aH (aa ao af))) (aB T.d_129 G_129 hr.m (aa (aw b5 (yqv 2 vl) ac) af) gl))))
         ay)
       (aj
        (aR (bS PySem.F.plainAttrs_list PySem.F.slot_list_append PySem.F.type_list_append bo (yqv 1 vl) (aa ao af))))))
       (aj
        (aD (am aU (aw b5 (yqv 2 vl) ac) ao (au _))
         (aj
          (aR (bS PySem.F.plainAttrs_list PySem.F.slot_list_append PySem.F.type_list_append bo (yqv 1 vl) (aa (ak aC ao (aQ dY gl T.z_str boot_str (aa (aw b5 (yqv 2 vl) ac) af))) af))))
         (aj
          (aD (am aU (aw b5 (yqv 2 vl) ac) ao (au _))
           (aj
            (aR (bS PySem.F.plainAttrs_list PySem.F.slot_list_append PySem.F.type_list_append bo (yqv 1 vl) (aa (ak aC (ak aC (aw b5 (yqv 2 vl) ac) ao) (aQ dY gl T.z_str boot_str (aa (aw b5 (yqv 2 vl) ac) af))) af))))
           (aj
            (aR (bS PySem.F.plainAttrs_list PySem.F.slot_list_append PySem.F.type_list_append bo (yqv 1 vl) (aa (ak aC (ak aC (ak aC (ak aC (ak aC (ak aC (aw b5 (yqv 2 vl) ac) ao) (aQ dY gl T.z_str boot_str (aa (aw b5 (yqv 2 vl) ac) af))) ao) (aw b5 (yqv 2 vl) ac)) ao) (aQ dY gl T.z_str boot_str (aa (aw b5 (yqv 2 vl) ac) af))) af)))))))))))
   (aj
    (av (yqv 1 vl)))))),?_⟩
 rw [show start _ [V.ref a]=[some (.ref a),none,none] from rfl];simp_arith! [bL];have lx:=hx.length;have lm:=gK ss;intro l0 hl0;refine ap ?_;simp_arith! [bL];refine ⟨⟨_,SqL.of (Same.upd hl0 _ _ ha)⟩,eZ (xs:=xs) (fun i σ H'=>Same H H'/\∃l o3,H l=none/\H' l=some (.lst ((ln false (ss.take i)).map V.str))/\σ=[some (.ref a),some (.ref l),o3]) ⟨Same.upd hl0,zAA l0 _ hl0 ae rfl⟩ ?_ ?_ ?_⟩
 ·rintro i σ H' _ ⟨sm,_⟩;exact SqL.of (sm _ _ ha)
 ·rintro i x σ H1 hxi ⟨sm,l,o3,hln,hl,rfl⟩;obtain ⟨s,f',hs,hsv,_⟩:=hx.get hxi;have hi:i<ss.length:=(zq17.mp hs).1;have hse:ss[i]=s:=(zq17.mp hs).2;have hds:=fA (dr hs);have hms:=jY (dr hs);have hgs:=iq hg (dr hs);have l1:=gL (al:=false) (ss:=ss.take i);have l2:=lr (ss:=ss) (i:=i);have l3:=rN (al:=false) s;rw [fP hi,hse,u9];generalize ln false (ss.take i)=Z at hl l1 ⊢;have hsv1:=hsv.same sm
  cases hsv1 with
  | @deed q0 dd hf hq=>
   rw [Stm.good] at hgs;rw [sT] at l3 ⊢;obtain ⟨k0,hk0,hin⟩:=qi hf;simp_arith! [];refine zAA _ _ hq hk0 fun p1 hp1=>zAF _ (.inr (SqT.of ae)) rfl rfl ?_;rw [hin,zq0 zq8];have s2:=Same.upd (o:=.tup [V.str (Str.ofString "if"),V.str (Str.ofString "while")]) hp1;have hl2:=s2 _ _ hl;have hq2:=s2.seqT hq;have sm2:=sm.trans s2;generalize upd H1 p1 (.tup [V.str (Str.ofString "if"),V.str (Str.ofString "while")])=H2 at s2 hl2 hq2 sm2 ⊢;clear hq hl s2 hk0 hin hp1;obtain ⟨e5,e3,e1,_,_⟩:=lf;have fin:∀z:Str,z=jn (dT dd)->Same H (upd H2 l (.lst (Z.map V.str++[.str z])))/\∃l1 o3,H l1=none/\upd H2 l (.lst (Z.map V.str++[.str z])) l1=some (.lst ((Z++[jn (dT dd)]).map V.str))/\[some (V.ref a),some (V.ref l),some (V.ref q0)]=[some (.ref a),some (.ref l1),o3]:=fun z e=>⟨sm2.updM hln,zAA l _ hln (by rw [ae,e,bI];rfl) rfl⟩
   have lZ:(Z.map V.str).length<sizeLine:=by rw [zq2,zq3];omega
   cases dd with
   |tell o=>
    refine zAC _ _ hq2 rfl rfl (zn _ rfl ?_);rw [zq1 Jk];have:=(dQ hN.1 hN.2.2 hgs).1.2.2;refine ⟨.inl ⟨rfl,_,SqL.of hl2⟩,zAA _ _ hq2 rfl (zAD _ (ei hN hgs) (by rw [e5,zq3];omega) (zAD _ hl2 lZ (fin _ ?_)))⟩;exact (mT (l:="tell ") Jk _).symm
   |copy n o=>
    refine zAC _ _ hq2 rfl rfl (zn _ rfl ?_);rw [zq0 Jk];refine zAC _ _ hq2 rfl rfl (zn _ rfl ?_);rw [zq1 Jk];have h1:=(dQ hN.1 hN.2.2 hgs.2).1.2.2;have h2:=(bg (hN.1 n hgs.1)).2.2;refine ⟨.inl ⟨rfl,_,SqL.of hl2⟩,zAA _ _ hq2 rfl (zAC _ _ rfl rfl (by rw [e3,zq3];omega) (zAA _ _ hq2 rfl (zAD _ (ei hN hgs.2) (by rw [strLen_append,e3,zq3];omega) (zAD _ hl2 lZ (fin _ ?_)))))⟩;exact (mS _ _).symm
   |op k n o p=>
    refine zAC _ _ hq2 rfl rfl (zn _ rfl ?_);rw [zq0 (by simpa using fun z=>jj (k:="tell") hgs.1 Jk z)];refine zAC _ _ hq2 rfl rfl (zn _ rfl ?_);rw [zq0 (by simpa using fun z=>jj (k:="copy") hgs.1 Jk z)];have h1:=(dQ hN.1 hN.2.2 hgs.2.2.1).1.2.2;have h2:=(bg (hN.1 n hgs.2.1)).2.2;have h3:=(dQ hN.1 hN.2.2 hgs.2.2.2).1.2.2;have h4:=(n9 hgs.1).2.2;refine ⟨.inl ⟨rfl,_,SqL.of hl2⟩,?_⟩;refine zAA _ _ hq2 rfl (zAC _ _ rfl rfl (by rw [e3,zq3];omega) ?_);refine zAA _ _ hq2 rfl (zAD _ (ei hN hgs.2.2.1) (by rw [strLen_append,e3,zq3];omega) ?_);refine ⟨by rw [strLen_append,strLen_append,e3,e1,zq3];omega,zAA _ _ hq2 rfl (zAK _ _ rfl rfl (by rw [strLen_append,strLen_append,strLen_append,e3,e1,zq3];omega) (by rw [strLen_append,strLen_append,strLen_append,strLen_append,e3,e1,zq3];omega) ?_)⟩;refine zAA _ _ hq2 rfl (zAD _ (ei hN hgs.2.2.2) (by rw [strLen_append,strLen_append,strLen_append,strLen_append,strLen_append,e3,e1,zq3];omega) (zAD _ hl2 lZ (fin _ ?_)));exact (zu _ _ _ _).symm
  | @ifs q0 a1 b1 n xs1 ys1 ones others f1 g1 hq ha1 hb1 h1 h2=>
   simp only [Stm.deep,Stm.many,Stm.good] at hds hms hgs;simp_arith! [bL];refine zAA _ _ hq rfl fun p1 hp1=>zAF _ (.inr (SqT.of ae)) rfl rfl ?_;rw [zq1 Jk];have s2:=Same.upd (o:=.tup [V.str (Str.ofString "if"),V.str (Str.ofString "while")]) hp1;have hl2:=s2 _ _ hl;have hq2:=s2.seqT hq;have sm2:=sm.trans s2;have ha2:=s2 _ _ ha1;have hb2:=s2 _ _ hb1;have h12:=h1.same s2;have h22:=h2.same s2;generalize upd H1 p1 (.tup [V.str (Str.ofString "if"),V.str (Str.ofString "while")])=H2 at s2 hl2 hq2 sm2 ha2 hb2 h12 h22 ⊢;clear hq hl s2 hp1 h1 h2 ha1 hb1;obtain ⟨_,_,e1,e2,_⟩:=lf;have hn:=(bg (hN.1 n hgs.1)).2.2;refine zAA _ _ hq2 rfl (zAC _ _ rfl rfl (by rw [e1,e2,zq3];omega) ?_);refine zAA _ _ hq2 rfl (zAC _ _ rfl rfl (by rw [strLen_append,e1,e2,zq3];omega) fun p2 hp2=>?_);have s3:=Same.upd (o:=.lst [V.str (Str.ofString "if"++Str.ofString " "++n)]) hp2;refine zAC _ _ (s3 _ _ hl2) ae (by rw [zq3];simp only [List.length_map,List.length_cons,List.length_nil];omega) fun p3 hp3=>?_;have s4:=s3.trans (Same.upd (o:=.lst (Z.map V.str++[V.str (Str.ofString "if"++Str.ofString " "++n)])) hp3);refine zAA _ _ (s4.seqT hq2) rfl ?_;rw [bL];refine zBI xs1 ones f1 ns w (s4 _ _ ha2) (h12.same s4) Jn Jn hN hgs.2.1 fun p4 H5 s5 hp4 he=>?_;have lc:=gL (al:=false) (ss:=ones);have ld:=gL (al:=false) (ss:=others);refine tQ (s5 _ _ ae) he (by simp only [List.length_map,List.length_cons,List.length_nil,List.length_append];omega) fun p5 hp5=>ap ?_;have s6:=(s4.trans s5).trans (Same.upd (o:=.lst ((Z.map V.str++[V.str (Str.ofString "if"++Str.ofString " "++n)])++(ln false ones).map V.str)) hp5);have hp5n:H p5=none:=sm2.free ((s4.trans s5).free hp5);have hp5e:upd H5 p5 (.lst ((Z.map V.str++[V.str (Str.ofString "if"++Str.ofString " "++n)])++(ln false ones).map V.str)) p5=some (.lst ((Z++jn ["if",n]::ln false ones).map V.str)):=by rw [ae,bI,dX,mh];rfl
   generalize upd H5 p5 (.lst ((Z.map V.str++[V.str (Str.ofString "if"++Str.ofString " "++n)])++(ln false ones).map V.str))=H6 at s6 hp5e ⊢;have sm6:=sm2.trans s6;have hq6:=s6.seqT hq2;have hb6:=s6 _ _ hb2;have h26:=h22.same s6;clear s5 s4 s3 hp2 hp3 hp4 he hp5 ha2 hb2 h12 h22 hl2 sm2 sm;have l22:=h26.length;simp_arith! [bL];refine ⟨fun σ H'=>Same H H'/\∃l',H l'=none/\H' l'=some (.lst (((Z++jn ["if",n]::ln false ones)++(if false || ! others.isEmpty then [("else":Str)]::lT false others else []).map jn).map V.str))/\σ=[some (.ref a),some (.ref l'),some (.ref q0)],?_,?_⟩
   ·refine zAA _ _ hq6 rfl ?_;simp_arith! [bL];rw [zq1 Jk];refine zAA _ _ hq6 rfl (zAA _ _ rfl (.inl (SqL.of hb6)) ?_)
    cases hc:others with
    |nil=>
     rw [hc] at l22;rw [zq0 (by simp [l22])];exact ⟨sm6,zAD p5 hp5n (by rw [hp5e,show (false || !([]:List Stm).isEmpty)=false from rfl,zq0 zq8,List.map_nil,gg]) rfl⟩
    |cons o1 o2=>
    rw [<- hc];have hb0:(false || ! others.isEmpty)=true:=by rw [hc];rfl
    rw [zq1 (by rw [l22,hc];simp),hb0,zq1 rfl];intro p7 hp7;have s7:=Same.upd (o:=.lst [V.str (Str.ofString "else")]) hp7;refine zAC _ _ (s7 _ _ hp5e) ae (by rw [zq3];simp only [List.length_map,List.length_cons,List.length_nil,List.length_append];omega) fun p8 hp8=>?_;have s8:=s7.trans (Same.upd (o:=.lst ((Z++jn ["if",n]::ln false ones).map V.str++[V.str (Str.ofString "else")])) hp8);refine zAA _ _ (s8.seqT hq6) rfl ?_;rw [bL];refine zBI ys1 others g1 ns w (s8 _ _ hb6) (h26.same s8) Jn Jn hN hgs.2.2 fun p9 H9 s9 hp9 he=>?_;refine tQ (s9 _ _ ae) he (by simp only [List.length_map,List.length_cons,List.length_nil,List.length_append];omega) fun pA hpA=>?_;have sA:=(s8.trans s9)
    refine ⟨(sm6.trans sA).trans (Same.upd hpA),zAD pA ((sm6.trans sA).free hpA) ?_ rfl⟩;rw [ae,mh];exact congrArg (fun z=>some (HO.lst z)) (bI (f:=V.str) (l₁:=Z++jn [Str.ofString "if",n]::ln false ones) (l₂:=(jn [("else":Str)])::ln false others)).symm
   rintro σ H7 ⟨sm7,l7,hn7,hl7,rfl⟩;have le:((Z++jn ["if",n]::ln false ones)++(if false || ! others.isEmpty then [("else":Str)]::lT false others else []).map jn).length<=10000:=by
    have z1:=fF (al:=false) others;rw [cf,cf,cF,zq2]
    split
    ·rw [cF];omega
    ·rw [List.length_nil];omega
   refine ap ?_;simp_arith! [];refine ⟨.inl ⟨rfl,_,SqL.of hl7⟩,zAF _ hl7 (by rw [zq2,zq3];omega) (sm7.updM hn7) (zAA l7 _ hn7 ?_ rfl)⟩;rw [ae,sT,dX,bI,bI];simp only [List.map_append,List.map_cons,List.append_assoc,List.cons_append];rfl
  | @whl q0 a1 n xs1 rows f1 hq ha1 h1=>
   simp only [Stm.deep,Stm.many,Stm.good] at hds hms hgs;simp_arith! [bL];refine zAA _ _ hq rfl fun p1 hp1=>zAF _ (.inr (SqT.of ae)) rfl rfl ?_;rw [zq1 Jk];have s2:=Same.upd (o:=.tup [V.str (Str.ofString "if"),V.str (Str.ofString "while")]) hp1;have hl2:=s2 _ _ hl;have hq2:=s2.seqT hq;have sm2:=sm.trans s2;have ha2:=s2 _ _ ha1;have h12:=h1.same s2;generalize upd H1 p1 (.tup [V.str (Str.ofString "if"),V.str (Str.ofString "while")])=H2 at s2 hl2 hq2 sm2 ha2 h12 ⊢;clear hq hl s2 hp1 h1 ha1;obtain ⟨_,_,e1,_,e2⟩:=lf;have hn:=(bg (hN.1 n hgs.1)).2.2;refine zAA _ _ hq2 rfl (zAC _ _ rfl rfl (by rw [e1,e2,zq3];omega) ?_);refine zAA _ _ hq2 rfl (zAC _ _ rfl rfl (by rw [strLen_append,e1,e2,zq3];omega) fun p2 hp2=>?_);have s3:=Same.upd (o:=.lst [V.str (Str.ofString "while"++Str.ofString " "++n)]) hp2;refine zAC _ _ (s3 _ _ hl2) ae (by rw [zq3];simp only [List.length_map,List.length_cons,List.length_nil];omega) fun p3 hp3=>?_;have s4:=s3.trans (Same.upd (o:=.lst (Z.map V.str++[V.str (Str.ofString "while"++Str.ofString " "++n)])) hp3);refine zAA _ _ (s4.seqT hq2) rfl ?_;rw [bL];refine zBI xs1 rows f1 ns w (s4 _ _ ha2) (h12.same s4) Jn Jn hN hgs.2 fun p4 H5 s5 hp4 he=>?_;have lc:=gL (al:=false) (ss:=rows);refine tQ (s5 _ _ ae) he (by simp only [List.length_map,List.length_cons,List.length_nil,List.length_append];omega) fun p5 hp5=>ap ?_;have s6:=(s4.trans s5).trans (Same.upd (o:=.lst ((Z.map V.str++[V.str (Str.ofString "while"++Str.ofString " "++n)])++(ln false rows).map V.str)) hp5);have hp5n:H p5=none:=sm2.free ((s4.trans s5).free hp5);have hp5e:upd H5 p5 (.lst ((Z.map V.str++[V.str (Str.ofString "while"++Str.ofString " "++n)])++(ln false rows).map V.str)) p5=some (.lst ((Z++jn ["while",n]::ln false rows).map V.str)):=by rw [ae,bI,dX,mh];rfl
   generalize upd H5 p5 (.lst ((Z.map V.str++[V.str (Str.ofString "while"++Str.ofString " "++n)])++(ln false rows).map V.str))=H6 at s6 hp5e ⊢;have sm6:=sm2.trans s6;have hq6:=s6.seqT hq2;simp_arith! [bL];refine zn (fun σ H'=>H'=H6/\σ=[some (.ref a),some (.ref p5),some (.ref q0)]) ?_ ?_
   ·refine zAA _ _ hq6 rfl ?_;simp_arith! [bL];rw [zq0 Jk];exact trivial
   rintro σ H7 ⟨rfl,rfl⟩;refine ap ?_;simp_arith! [];refine ⟨.inl ⟨rfl,_,SqL.of hp5e⟩,zAF _ hp5e (by rw [zq2,cf,cF,zq3];omega) (sm6.updM hp5n) (zAA p5 _ hp5n ?_ rfl)⟩;rw [ae,sT,dX,bI];simp only [List.map_append,List.map_cons,List.append_assoc,List.cons_append];rfl
 ·rintro σ H' ⟨sm,l,o3,hln,hl,rfl⟩;rw [lx,fQ] at hl;refine ap ?_;simp_arith! [];exact q l H' sm hln hl
theorem iD(T:Txt K mg t):∀d,FnOk P w K mg base CX0 (d+1) t.f_129 t.e_129 ["_law_rows"] (eh K d)
 |0=>⟨fun vs H Q E h=>by obtain ⟨_,_,_,_,_,_,_,_,_,h,_⟩:=h;omega,fun _ _ _ _ _ _ _ _ _ _ _ _ _ h=>by obtain ⟨_,_,_,_,_,_,_,_,_,h,_⟩:=h;omega⟩
 |d+1=>jX T d (iD T d)
def mw(x:Str)(m:Int)(H:Hp)(Q:VK):Prop:=∃(most:Nat),m=(most:Int)/\J3.okX x/\Q (.bl (c7 x&&decide (J3.bJ x<most))) H
def nF:Sp:=fun vs H Q _=>∃(x:Str)(m:Int),vs=[.str x,.int m]/\mw x m H Q
theorem dn{x:Str}{m:Int}{H:Hp}{Q:VK}{E:XK}:nF [.str x,.int m] H Q E=mw x m H Q:=propext ⟨by rintro ⟨_,_,e,q⟩;cases e;exact q,fun q=>zAE _ _ rfl q⟩
def kA:Sp:=fun vs H Q _=>∃(x:Str),vs=[.str x]/\J3.okX x/\Q (.bl (aX x)) H
theorem dm{x:Str}{H:Hp}{Q:VK}{E:XK}:kA [.str x] H Q E=(J3.okX x/\Q (.bl (aX x)) H):=propext ⟨by rintro ⟨_,e,q⟩;cases e;exact q,fun q=>zn _ rfl q⟩
def oE(l:List Nat):Nat:=l.foldl (fun n c=>10 * n+(c-48)) 0
theorem jf(T:Txt K mg t):FnOk P w K mg base CX0 1 t.f_131 t.e_131 ["_law_word","_law_most"] nF:=by
 refine T.d_131.F.ok sc_131 ∅ ?_;rintro cdv A outer s H vs Q E hr ⟨x,m,rfl,most,rfl,hx,q⟩;refine ⟨_,
   (XSs.h
   (bh
    (aD (aW (bN (am aU (yqv 0 vl) ao (au _)) (c4 (aW (bc (am aU (aw gG (yqv 0 vl) ac) ao (au _)) (b9 (am dP (yqv 0 vl) ao (au _))))))))
     (aj
      (av d7))
     ay)
   (ai
    (ar (i:=2) sc_131.nd rfl ll ac)
   (ai
    (cc PassesOwn.never rfl (gu (yqv 0 vl)) (aK (i:=3) sc_131.nd rfl ll)
     (ai
      (ar (i:=4) sc_131.nd rfl ll (bS PySem.F.plainAttrs_str PySem.F.slot_str_find PySem.F.type_str_find uc ao (aa (yqv 3 vl) af)))
     (ai
      (aD (am cy (yqv 4 vl) ac (au _))
       (aj
        (av d7))
       ay)
     (aj
      (ar (i:=2) sc_131.nd rfl ll (ak aL (ak cP ac (yqv 2 vl)) (yqv 4 vl)))))))
   (aj
    (av (cE cy (yqv 2 vl) (yqv 1 vl) (au _)))))))),?_⟩
 rw [show start _ [V.str x,V.int (most:Int)]=[some (.str x),some (.int most),none,none,none] from rfl];simp_arith! [];refine zn (fun σ H'=>H'=H/\x≠""/\(x="0"\/x.cps[0]?≠some 48)/\σ=[some (.str x),some (.int (most:Int)),none,none,none]) ?_ ?_
 ·by_cases e0:x=""
  ·rw [zq1 (zq5 e0),zq1 trivial];unfold c7 at q;rw [zq6 (fun z=>z e0),dW,dW,dW] at q;exact q
  ·rw [zq0 (by simpa using e0)]
   cases hl:x.cps.toList with
   |nil=>exact absurd (GQ.toList_inj (by rw [hl];decide +kernel)) e0
   |cons c r=>
    have h0:x.cps[0]?=some c:=by rw [<- v2,hl];rfl
    refine ⟨by have:=hx.2.2.1;rw [zq3];omega,zn c (bt (j:=0) rfl) ?_⟩
    by_cases ec:c=48
    ·subst ec;rw [zq1 Jk]
     by_cases e1:x="0"
     ·rw [zq0 (by rw [zq5 e1];decide)];exact zAG rfl e0 (.inl e1) rfl
     ·rw [zq1 (by rw [zq6 e1];decide)];unfold c7 at q;rw [h0,zq6 e1,show decide ((some 48:Option Nat)≠some 48)=false from by decide,t9,pF,dW] at q;exact q
    ·rw [zq0 (fun z=>ec ?_)]
     ·exact zAG rfl e0 (.inr fun z=>ec (by rw [h0] at z;exact Option.some.inj z)) rfl
     ·have z2:=congrArg (fun s:Str=>s.cps[0]?) (of_decide_eq_true z);exact Option.some.inj (z2.trans Jk)
 rintro σ H1 ⟨rfl,e0,ez,rfl⟩;have hnb:c7 x=x.cps.toList.all fun c=>decide (48<=c/\c<=57):=by unfold c7;rw [zq5 e0,i9,show (decide (x="0") || decide (x.cps[0]?≠some 48))=true from by simpa using ez,sU]
 refine ap ?_;simp_arith! [];refine ap ?_;simp_arith! [];refine zAD x rfl hx.1 (qu (fun i σ H'=>H'=H1/\(∀c∈x.cps.toList.take i,48<=c/\c<=57)/\∃o3 o4,σ=[some (.str x),some (.int (most:Int)),some (.int (oE (x.cps.toList.take i):Nat)),o3,o4]) (zAB rfl (fun c hc=>(by simp at hc)) (zAJ _ _ rfl)) ?_ ?_)
 ·rintro i c σ H2 hc ⟨rfl,hd,o3,o4,rfl⟩;have hi:i<x.cps.toList.length:=(zq17.mp hc).1;have hce:x.cps.toList[i]=c:=(zq17.mp hc).2;have hmem:c∈x.cps.toList:=dr hc;simp_arith! [];rw [J3.qm c (gw hx.1 hmem)]
  by_cases hcd:48<=c/\c<=57
  ·rw [zq1 hcd];refine ap ?_;simp_arith! [];rw [zq0 Jo];refine ap ?_;simp_arith! [];have e1:oE (x.cps.toList.take (i+1))=10 * oE (x.cps.toList.take i)+(c-48):=by rw [fP hi,hce];unfold oE;rw [List.foldl_append];rfl
   refine zAB (.inl ⟨Jm,Jm⟩) (fun c' hc'=>?_) (zAJ _ _ (by rw [e1];rfl));rw [fP hi,hce] at hc';rcases zq10.mp hc' with z | z
   ·exact hd c' z
   ·rw [zq15.mp z];exact hcd
  ·rw [zq0 hcd];refine ap ?_;simp_arith! [];rw [zq1 Jm];have z:c7 x=false:=by rw [hnb];exact zq62.mpr fun z=>hcd (of_decide_eq_true (zq32.mp z c hmem))
   rw [z,dW] at q;exact q
 ·rintro σ H2 ⟨rfl,hd,o3,o4,rfl⟩;rw [fQ] at hd ⊢;dsimp only;refine ap ?_;simp_arith! [];rw [hnb,zq32.mpr fun c hc=>zq5 (hd c hc),i9] at q;rw [show decide (((oE x.cps.toList:Nat):Int)<(most:Int))=decide (J3.bJ x<most) from decide_eq_decide.mpr (by unfold oE J3.bJ;omega)];exact q
theorem qS(T:Txt K mg t):FnOk P w K mg base CX0 1 t.f_132 t.e_132 ["_law_word"] kA:=by
 refine T.d_132.F.ok sc_132 ∅ ?_;rintro cdv A outer s H vs Q E hr ⟨x,rfl,hx,q⟩;refine ⟨_,
   (XSs.h
   (ai
    (cc PassesOwn.never rfl (gu (yqv 0 vl)) (aK (i:=1) sc_132.nd rfl ll)
     (aj
      (aD (am jh (yqv 1 vl) ao rfl)
       (aj
        (av d7))
       ay)))
   (aj
    (av (iQ cy cy ac (ax eT gl T.z_len PySem.boot_len (aa (yqv 0 vl) af)) ac))))),?_⟩
 rw [show start _ [V.str x]=[some (.str x),none] from rfl];simp_arith! [];refine zAD x rfl hx.1 (qu (fun i σ H'=>H'=H/\(∀c∈x.cps.toList.take i,97<=c/\c<=122)/\∃o1,σ=[some (.str x),o1]) (zAB rfl (fun c hc=>(by simp at hc)) ⟨_,rfl⟩) ?_ ?_)
 ·rintro i c σ H2 hc ⟨rfl,hd,o1,rfl⟩;have hi:i<x.cps.toList.length:=(zq17.mp hc).1;have hce:x.cps.toList[i]=c:=(zq17.mp hc).2;have hmem:c∈x.cps.toList:=dr hc;have z:=mQ c (gw hx.1 hmem);unfold LETS at z;simp_arith! [];rw [z]
  by_cases hcd:97<=c/\c<=122
  ·rw [zq5 hcd,zq0 Jm];refine ⟨fun c' hc'=>?_,_,rfl⟩;rw [fP hi,hce] at hc';rcases zq10.mp hc' with z | z
   ·exact hd c' z
   ·rw [zq15.mp z];exact hcd
  ·rw [zq6 hcd,zq1 Jm];have z:aX x=false:=by unfold aX;rw [show (x.cps.toList.all fun c=>decide (97<=c/\c<=122))=false from zq62.mpr fun z=>hcd (of_decide_eq_true (zq32.mp z c hmem)),pF]
   rw [z] at q;exact q
 ·rintro σ H2 ⟨rfl,hd,o1,rfl⟩;rw [fQ] at hd;dsimp only;refine ap ?_;unfold hZ;simp_arith! [];have e:aX x=(decide (1<=x.length)&&decide (x.length<=6)):=by unfold aX;rw [zq32.mpr fun c hc=>zq5 (hd c hc),sU]
  rw [e] at q;have:=hx.2.2.1;refine zAD x rfl (by rw [zq3];omega) ?_
  by_cases h1:1<=x.length
  ·rw [zq1 (by simp;omega)];rw [zq5 h1,i9] at q;rw [show decide ((x.length:Int)<7)=decide (x.length<=6) from decide_eq_decide.mpr Jn];exact q
  ·rw [zq0 (by simp;omega)];rw [zq6 h1,dW] at q;exact q
def jD(K:W.Frag)(L:Addr)(wd:Str)(B:Addr)(at':Int)(H:Hp)(Q:VK):Prop:=∃(tss:List (List Str)) (bs:List Str) (j:Nat),H L=some (.lst ((tss.map jn).map V.str))/\(∀ts∈tss,J3.okT ts)/\tss.length<=200/\H B=some (.lst (bs.map V.str))/\bs.length<=400/\L≠B/\at'=(j:Int)/\j<=tss.length/\
 (∀b j' H',J3.d5 wd bs (tss.drop j)=some (b,tss.drop j')->j'<=tss.length->SameX B H H'->H' B=some (.lst (b.map V.str))->b.length<=bs.length+200->Q (.int (j':Int)) H')/\
 (J3.d5 wd bs (tss.drop j)=none->∀H',SameX B H H'->Q (.int (-1)) H')
def kq(K:W.Frag):Sp:=fun vs H Q _=>∃(L:Addr)(wd:Str)(B:Addr)(at':Int),vs=[.ref L,.str wd,.ref B,.int at']/\jD K L wd B at' H Q
theorem nv{K:W.Frag}{L B:Addr}{wd:Str}{at':Int}{H:Hp}{Q:VK}{E:XK}:kq K [.ref L,.str wd,.ref B,.int at'] H Q E=jD K L wd B at' H Q:=propext ⟨by rintro ⟨_,_,_,_,e,q⟩;cases e;exact q,fun q=>zAO _ _ _ _ rfl q⟩
theorem gI{w:Str}{bs:List Str}{l:List Str}{r:List (List Str)}(h:l.length=2->l[0]?=some w->l[1]?=some ("=":Str)):J3.d5 w bs (l::r)=some (bs,l::r):=by
 rw [J3.d5]
 cases hd:J3.hdF w l with
 |none=>rfl
 |some x=>obtain rfl:=J3.kX hd;have z:x="=":=Option.some.inj (h rfl rfl);dsimp only;rw [zq1 z]
theorem tZ{w x:Str}{bs:List Str}{r:List (List Str)}(h:x≠"="):J3.d5 w bs ([w,x]::r)=if aX x=true/\x∉bs then J3.d5 w (bs++[x]) r else none:=by rw [J3.d5,show J3.hdF w [w,x]=some x by unfold J3.hdF;dsimp only;rw [if_pos rfl]];dsimp only;rw [zq0 h]
theorem qO(T:Txt K mg t):FnOk P w K mg base CX0 2 t.f_133 t.e_133 ["_law_lines_here","_law_word","_law_boxes","_law_at"] (kq K):=by
 have G_132:=@qS P w K mg base t T;refine T.d_133.F.ok sc_133 ∅ ?_;rintro cdv A outer s H vs Q E hr ⟨L,wd,B,at',rfl,tss,bs,j,hL,hok,hlen,hB,hbl,hne,rfl,hj,q,e⟩;refine ⟨_,
   (XSs.h
   (ai
    (fM PassesOwn.never (am cy (yqv 3 vl) (ax aq gl T.z_len PySem.boot_len (aa (yqv 0 vl) af)) (au _))
     (ai
      (ar (i:=4) sc_133.nd rfl ll (bS PySem.F.plainAttrs_str PySem.F.slot_str_split PySem.F.type_str_split fb (aw aF (yqv 0 vl) (yqv 3 vl)) (aa ao af)))
     (ai
      (aD (aW (bN (am dP (ax aq gl T.z_len PySem.boot_len (aa (yqv 4 vl) af)) ac (au _)) (bN (am dP (aw aF (yqv 4 vl) ac) (yqv 1 vl) (au _)) (c4 (am aU (aw aF (yqv 4 vl) ac) ao (au _))))))
       (aj
        (av (yqv 3 vl)))
       ay)
     (ai
      (aD (aW (bN (ce (cO (aB T.d_132 G_132 hr.m (aa (aw aF (yqv 4 vl) ac) af) gl))) (c4 (am cS (aw aF (yqv 4 vl) ac) (yqv 2 vl) rfl))))
       (aj
        (av (cn bO ac)))
       ay)
     (ai
      (aR (bS PySem.F.plainAttrs_list PySem.F.slot_list_append PySem.F.type_list_append bo (yqv 2 vl) (aa (aw aF (yqv 4 vl) ac) af)))
     (aj
      (ar (i:=3) sc_133.nd rfl ll (ak aL (yqv 3 vl) ac))))))))
   (aj
    (av (yqv 3 vl))))),?_⟩
 rw [show start _ [V.ref L,V.str wd,V.ref B,V.int (j:Int)]=[some (.ref L),some (.str wd),some (.ref B),some (.int j),none] from rfl];simp_arith! [dm];obtain ⟨μ,hμ⟩:∃μ:L2.St->Hp->Nat,μ=fun σ _=>match σ[3]? with | some (some (V.int z))=>tss.length-z.toNat | _=>0:=⟨_,rfl⟩
 refine fL (fun σ H'=>∃j1 b1 o4,j1<=tss.length/\SameX B H H'/\H' B=some (.lst (b1.map V.str))/\b1.length<=bs.length+j1/\J3.d5 wd bs (tss.drop j)=J3.d5 wd b1 (tss.drop j1)/\σ=[some (.ref L),some (.str wd),some (.ref B),some (.int (j1:Int)),o4])
  μ (zAW j bs none hj (SameX.of (Same.refl _)) hB Jn rfl rfl) ?_
 rintro σ H1 ⟨j1,b1,o4,hj1,sx,hB1,hl1,hA,rfl⟩;have hL1:=sx _ _ hL hne;simp_arith! [dm];refine zn _ (.inl (SqL.of hL1)) ?_;rw [zq2,zq2]
 by_cases hlt:j1<tss.length
 ·rw [zq1 (by simp;omega)];have hts:tss[j1]?=some tss[j1]:=dI hlt;have hk:=hok _ (pG hlt);have hdr:=cw hts;generalize tss[j1]=ts at hts hk hdr;refine zn (fun σ' H'=>(∃j1 b1 o4,j1<=tss.length/\SameX B H H'/\H' B=some (.lst (b1.map V.str))/\b1.length<=bs.length+j1/\J3.d5 wd bs (tss.drop j)=J3.d5 wd b1 (tss.drop j1)/\σ'=[some (.ref L),some (.str wd),some (.ref B),some (.int (j1:Int)),o4])/\μ σ' H'<μ [some (.ref L),some (.str wd),some (.ref B),some (.int (j1:Int)),o4] H1) (fun σ' H' h=>zAD _ h.2 rfl h.1) ?_;refine zAA _ _ (SqL.of hL1) (bt (by rw [cA,cA,hts];rfl)) ?_;refine ⟨rfl,zAK (jn ts) (" ") rfl rfl Jk (by have:=J3.u0 hk;omega) fun l1 hl1'=>ap ?_⟩;rw [J3.jr hk];have s2:=Same.upd (o:=.lst (ts.map V.str)) hl1';have hw:upd H1 l1 (.lst (ts.map V.str)) l1=some (.lst (ts.map V.str)):=ae;have hB2:=s2 _ _ hB1;have sx2:=sx.trans (SameX.of s2);generalize upd H1 l1 (.lst (ts.map V.str))=H2 at s2 hw hB2 sx2 ⊢;have hD:=hA.trans (by rw [hdr]);have back:J3.d5 wd b1 (ts::tss.drop (j1+1))=some (b1,ts::tss.drop (j1+1))->Q (.int (j1:Int)) H2:=fun z=>q b1 j1 H2 (by rw [hD,z,hdr]) hj1 sx2 hB2 Jn;simp_arith! [dm];refine zn _ (.inl (SqL.of hw)) ?_;rw [zq2]
  by_cases h2:ts.length=2
  ·obtain ⟨k,x,rfl⟩:=l8 h2;rw [zq0 (by show ¬(! decide ((2:Int)=2))=true;decide)];refine zAA _ _ (SqL.of hw) rfl ?_;simp_arith! [dm]
   by_cases hkw:k=wd
   ·subst hkw;rw [zq0 Jo];refine zAA _ _ (SqL.of hw) rfl ?_;simp_arith! [dm]
    by_cases hx:x="="
    ·rw [zq1 (zq5 hx)];exact back (gI fun _ _=>by rw [hx];rfl)
    ·rw [zq0 (by simpa using hx)];refine ap ?_;simp_arith! [dm];refine zAA _ _ (SqL.of hw) rfl ?_;rw [dm];have hxk:=hk.2.2 x Jo;refine ⟨hxk,zn _ rfl ?_⟩;rw [tZ hx] at hD
     by_cases hn:aX x=true
     ·rw [hn,zq0 Jm];refine zAA _ _ (SqL.of hw) rfl (zAF _ (.inl (SqL.of hB2)) rfl cx ?_);rw [cC]
      by_cases hm:x∈b1
      ·rw [zq5 hm,zq1 rfl];rw [zq0 (fun z=>z.2 hm)] at hD;exact e hD H2 sx2
      ·rw [zq6 hm,zq0 zq8];rw [zq1 ⟨hn,hm⟩] at hD;refine ap ?_;simp_arith! [];refine ⟨.inl ⟨rfl,_,SqL.of hB2⟩,zAA _ _ (SqL.of hw) rfl (zAD _ hB2 (by rw [zq2,zq3];omega) (ap ?_))⟩;simp_arith! [];refine ⟨zAW (j1+1) (b1++[x]) _ Jn (sx2.trans SameX.upd) (by rw [ae,bI];rfl) (by rw [cf,gi];omega) hD rfl,?_⟩;rw [hμ];show tss.length-((j1:Int)+1).toNat<tss.length-((j1:Int)).toNat;omega
     ·rw [zq62.mpr hn,zq1 Jm];rw [zq0 (fun z=>hn z.1)] at hD;exact e hD H2 sx2
   ·rw [zq1 (by simpa using hkw),zq1 trivial];exact back (gI fun _ z=>absurd (Option.some.inj z) hkw)
  ·rw [zq1 (by simp;omega),zq1 trivial];exact back (gI fun z=>absurd z h2)
 ·rw [zq0 (by simp;omega)];have hd0:tss.drop j1=[]:=wD Jn;refine ap ?_;simp_arith! [];exact q b1 j1 H1 (by rw [hA,hd0];rfl) hj1 sx hB1 Jn
def opS(ns:List Str)(most:Nat)(x:Str):Bool:=decide (x∈ns) || (c7 x&&decide (J3.bJ x<most))
theorem jg{ns:List Str}{most:Nat}{x:Str}(hn:∀n∈ns,aX n=true):(J3.opF ns most x).isSome=opS ns most x:=by
 unfold J3.opF opS
 by_cases h:c7 x=true
 ·have hx:x∉ns:=fun z=>by rw [ka (hn x z)] at h;cases h
  rw [zq1 h,h,zq6 hx,t9,i9]
  by_cases hl:J3.bJ x<most
  ·rw [zq1 hl,zq5 hl];rfl
  ·rw [zq0 hl,zq6 hl];rfl
 ·rw [zq0 h,zq62.mpr h,dW,Bool.or_false]
  by_cases hx:x∈ns
  ·rw [zq1 hx,zq5 hx];rfl
  ·rw [zq0 hx,zq6 hx];rfl
theorem AQ(n:Nat):inV (.int (n:Int)) [.int 3,.int 5]=decide (n=3\/n=5):=by
 have h3:((n:Int)=3)=(n=3):=propext Jn;have h5:((n:Int)=5)=(n=5):=propext Jn
 by_cases a:n=3
 ·subst a;rfl
 by_cases b:n=5
 ·subst b;rfl
 rw [zq6 (fun z=>z.elim a b)];simp [inV,eqV];omega
def mq(K:W.Frag)(a B:Addr)(m:Int)(H:Hp)(Q:VK):Prop:=∃(ts bs:List Str)(most:Nat),m=(most:Int)/\H a=some (.lst (ts.map V.str))/\J3.okT ts/\H B=some (.lst (bs.map V.str))/\(∀n∈bs,aX n=true)/\∀H',Same H H'->Q (.bl (J3.asF bs most ts).isSome) H'
def nA(K:W.Frag):Sp:=fun vs H Q _=>∃(a B:Addr)(m:Int),vs=[.ref a,.ref B,.int m]/\mq K a B m H Q
theorem xK{K:W.Frag}{a B:Addr}{m:Int}{H:Hp}{Q:VK}{E:XK}:nA K [.ref a,.ref B,.int m] H Q E=mq K a B m H Q:=propext ⟨by rintro ⟨_,_,_,e,q⟩;cases e;exact q,fun q=>zAI _ _ _ rfl q⟩
theorem ui(T:Txt K mg t):FnOk P w K mg base CX0 2 t.f_134 t.e_134 ["_law_words","_law_boxes","_law_most"] (nA K):=by
 have G_131:=@jf P w K mg base t T;refine T.d_134.F.ok sc_134 ∅ ?_;rintro cdv A outer s H vs Q E hr ⟨a,B,m,rfl,ts,bs,most,rfl,ha,hok,hB,hn,q⟩;refine ⟨_,
   (XSs.h
   (bh
    (aD (aW (bN (am bX (ax aq gl T.z_len PySem.boot_len (aa (yqv 0 vl) af)) (bb (bp Jp)) rfl) (c4 (am bX (aw aF (yqv 0 vl) ac) (yqv 1 vl) rfl))))
     (aj
      (av d7))
     ay)
   (bh
    (aD (aW (bc (am aU (ax aq gl T.z_len PySem.boot_len (aa (yqv 0 vl) af)) ac (au _)) (b9 (am bX (aw aF (yqv 0 vl) ac) (bb (bp Jp)) rfl))))
     (aj
      (av d7))
     ay)
   (ai
    (cc PassesOwn.never rfl (cr (pv (yqv 0 vl) ac ac)) (aK (i:=3) sc_134.nd rfl ll)
     (aj
      (aD (aW (bc (am bX (yqv 3 vl) (yqv 1 vl) rfl) (b9 (ce (cO (aB T.d_131 G_131 hr.m (aa (yqv 3 vl) (aa (yqv 2 vl) af)) gl))))))
       (aj
        (av d7))
       ay)))
   (aj
    (av d7)))))),?_⟩
 rw [show start _ [V.ref a,V.ref B,V.int (most:Int)]=[some (.ref a),some (.ref B),some (.int most),none] from rfl];simp_arith! [dn];refine zn (fun σ H'=>Same H H'/\(ts.length=3\/ts.length=5)/\(∃n,ts[0]?=some n/\n∈bs)/\σ=[some (.ref a),some (.ref B),some (.int (most:Int)),none]) ?_ ?_
 ·refine zn _ (.inl (SqL.of ha)) fun p hp=>?_;have s1:=Same.upd (o:=.tup [V.int 3,V.int 5]) hp;refine zAF _ (.inr (SqT.of ae)) rfl rfl ?_;rw [zq2,AQ]
  by_cases hl:ts.length=3\/ts.length=5
  ·rw [zq5 hl,zq0 Jm];have h0:0<ts.length:=by omega
   have hg:ts[0]?=some ts[0]:=dI h0;refine zAA _ _ (SqL.of (s1 _ _ ha)) (bt (j:=0) (by rw [cA,hg];rfl)) (zAF _ (.inl (SqL.of (s1 _ _ hB))) rfl cx ?_);rw [cC]
   by_cases hm:ts[0]∈bs
   ·rw [zq5 hm,zq0 Jm];exact zAG s1 hl (zn _ hg hm) rfl
   ·rw [zq6 hm,zq1 Jm];have z:=q _ s1;obtain ⟨n,r,e⟩:∃n r,ts=n::r:=by
     cases ts with
     |nil=>exact absurd h0 Jo
     |cons n r=>exact zAJ n r rfl
    subst e;rw [jB (n:=n) (r:=r) hm] at z;exact z
  ·rw [zq6 hl,zq1 Jm,zq1 trivial];have z:=q _ s1;rw [ml (fun z=>hl (.inl z)) (fun z=>hl (.inr z))] at z;exact z
 rintro σ H1 ⟨s1,hl,⟨n,hn0,hnb⟩,rfl⟩;refine ap ?_;simp_arith! [dn];refine zn (fun σ H'=>Same H H'/\(∃zs:List Str,yY (ts.map V.str) (zs.map V.str)/\zs.length<=2/\(∀z∈zs,J3.okX z)/\(J3.asF bs most ts).isSome=zs.all (opS bs most))/\σ=[some (.ref a),some (.ref B),some (.int (most:Int)),none]) ?_ ?_
 ·refine zn _ (.inl (SqL.of (s1 _ _ ha))) ?_;rw [zq2];rcases hl with h3 | h5
  ·rw [h3,zq0 Jm];obtain ⟨n',u,x,rfl⟩:=zw h3;obtain rfl:n'=n:=Option.some.inj hn0;refine zAB s1 (zAF ([x]) (.inl (zAI _ _ _ rfl rfl)) Jo (fun z hz=>by rw [zq15.mp hz];exact hok.2.2 x Jo) ?_) rfl;rw [show J3.asF bs most [n',u,x]=(J3.opF bs most x).map (.copy n' ·) by unfold J3.asF;dsimp only;rw [if_pos hnb],Option.isSome_map,jg hn];simp
  ·rw [h5,zq1 Jm];obtain ⟨n',u,x,k,y,rfl⟩:=zx h5;obtain rfl:n'=n:=Option.some.inj hn0;refine zAA _ _ (SqL.of (s1 _ _ ha)) rfl fun p hp=>?_;have s2:=s1.trans (Same.upd (o:=.tup (FB.opsL.map V.str)) hp);refine zAF _ (.inr (SqT.of ae)) rfl rfl ?_;rw [show inV (.str k) [.str "plus",.str "less",.str "and",.str "or",.str "xor",.str "below",.str "same"]=decide (k∈FB.opsL) from cC (ns:=FB.opsL)]
   by_cases hk:k∈FB.opsL
   ·rw [zq5 hk,zq0 Jm];refine zAB s2 (zAF ([x,y]) (.inr (zAT _ _ _ _ _ ⟨rfl,rfl⟩)) Jo (fun z hz=>?_) ?_) rfl
    ·simp only [List.mem_cons,List.not_mem_nil,or_false] at hz;rcases hz with rfl | rfl
     ·exact hok.2.2 _ Jo
     ·exact hok.2.2 _ Jo
    ·have eA:J3.asF bs most [n',u,x,k,y]=(match J3.opF bs most x,J3.opF bs most y with | some a,some b=>some (.op k n' a b) | _,_=>none):=by unfold J3.asF;dsimp only;rw [if_pos ⟨hnb,hk⟩]<;>rfl
     rw [eA,pE,pE,List.all_nil,sU,<- jg hn,<- jg hn]
     cases J3.opF bs most x<;>cases J3.opF bs most y<;>rfl
   ·rw [zq6 hk,zq1 Jm];have z:=q _ s2;rw [show J3.asF bs most [n',u,x,k,y]=none by unfold J3.asF;dsimp only;rw [if_neg (fun z=>hk z.2)]] at z;exact z
 rintro σ H2 ⟨s2,⟨zs,h2,lz,hzk,hz⟩,rfl⟩;rw [hz] at q;refine ap ?_;simp_arith! [dn];refine zAM a _ _ rfl (SqL.of (s2 _ _ ha)) h2 fun l hl=>?_;have s3:=s2.trans (Same.upd (o:=.lst (zs.map V.str)) hl);refine ⟨⟨_,SqL.of ae⟩,eZ (xs:=zs.map V.str) (fun i σ H'=>H'=upd H2 l (.lst (zs.map V.str))/\(∀z∈zs.take i,opS bs most z=true)/\∃o,σ=[some (.ref a),some (.ref B),some (.int (most:Int)),o]) (zAB rfl (fun z hz=>(by simp at hz)) ⟨_,rfl⟩) ?_ ?_ ?_⟩
 ·rintro i σ H' _ ⟨rfl,_⟩;exact SqL.of ae
 ·rintro i x σ H3 hxi ⟨rfl,hd,o,rfl⟩;rw [cA] at hxi;obtain ⟨z,hzi,rfl⟩:=zq46.mp hxi;have hi:i<zs.length:=(zq17.mp hzi).1;have hze:zs[i]=z:=(zq17.mp hzi).2;have hmem:=dr hzi;simp_arith! [dn];refine zAF _ (.inl (SqL.of (s3 _ _ hB))) rfl cx ?_;rw [cC];have fin:opS bs most z=true->(∀y∈zs.take (i+1),opS bs most y=true):=fun hz1 y hy=>by
   rw [fP hi,hze] at hy;rcases zq10.mp hy with e | e
   ·exact hd y e
   ·rw [zq15.mp e];exact hz1
  have no:opS bs most z=false->Q (.bl false) (upd H2 l (.lst (zs.map V.str))):=fun hz0=>by have y:=q _ s3;rw [show zs.all (opS bs most)=false from zq62.mpr fun w=>by rw [zq32.mp w z hmem] at hz0;cases hz0] at y;exact y
  by_cases hm:z∈bs
  ·rw [zq5 hm,zq0 Jm];exact ⟨fin (by unfold opS;rw [zq5 hm,sL]),_,rfl⟩
  ·rw [zq6 hm,zq1 Jm];have eo:opS bs most z=(c7 z&&decide (J3.bJ z<most)):=by unfold opS;rw [zq6 hm,t9]
   refine zAD most rfl (hzk z hmem) ?_;rw [<- eo]
   cases ho:opS bs most z with
   |true=>
    refine zn _ rfl ?_;rw [zq0 Jm];exact zAB rfl (fin ho) ⟨_,rfl⟩
   |false=>refine zn _ rfl ?_;rw [zq1 Jm];exact no ho
 ·rintro σ H3 ⟨rfl,hd,o,rfl⟩;rw [zq2,fQ] at hd;dsimp only;refine ap ?_;simp_arith! [];have z:=q _ s3;rw [zq32.mpr hd] at z;exact z
def ans(o:Option Nat):Int:=match o with | some n=>(n:Int) | none=>-1
def jF(K:W.Frag)(L B:Addr)(m:Int)(H:Hp)(Q:VK):Prop:=∃(tss:List (List Str)) (ns:List Str) (most:Nat),m=(most:Int)/\H L=some (.lst ((tss.map jn).map V.str))/\(∀ts∈tss,J3.okT ts)/\tss.length<=200/\H B=some (.lst (ns.map V.str))/\(∀n∈ns,aX n=true)/\
 ∀H',Same H H'->Q (.int (ans (J3.aI ns most [] 0 tss))) H'
def ky(K:W.Frag):Sp:=fun vs H Q _=>∃(L B:Addr)(m:Int),vs=[.ref L,.ref B,.int m]/\jF K L B m H Q
theorem uJ{K:W.Frag}{L B:Addr}{m:Int}{H:Hp}{Q:VK}{E:XK}:ky K [.ref L,.ref B,.int m] H Q E=jF K L B m H Q:=propext ⟨by rintro ⟨_,_,_,e,q⟩;cases e;exact q,fun q=>zAI _ _ _ rfl q⟩
theorem Av{K:W.Frag}{H:Hp}{a:Addr}{ts:List Str}{A B:Hp->Prop}(hw:H a=some (.lst (ts.map V.str)))(hq:¬ts[1]?=some ("=":Str)) (hB:B H) :
  ∃ys,(SqL K H a ys\/SqT K H a ys)/\if decide ((1:Int)<(ys.length:Int))=true then ∃xs v,SqL K H a xs/\atI xs 1=some v/\rEq v (.str "=") H (fun x H'=>∃k,x=.bl k/\if k=true then A H' else B H') else B H:=by
 refine zn _ (.inl (SqL.of hw)) ?_;rw [zq2]
 by_cases h1:1<ts.length
 ·rw [zq1 (by simp;omega)];refine zAC _ _ (SqL.of hw) (bt (j:=1) (by rw [cA,dI h1];rfl)) rfl (zn _ rfl ?_);rw [zq0 (by simpa using fun z=>hq (by rw [dI h1,z]))];exact hB
 ·rw [zq0 (by simp;omega)];exact hB
theorem fY{K:W.Frag}{H:Hp}{a:Addr}{ts:List Str}{A B:Prop}(hw:H a=some (.lst (ts.map V.str)))(hl:ts.length≠2)(hB:B):
  ∃ys,(SqL K H a ys\/SqT K H a ys)/\if decide ((ys.length:Int)=2)=true then A else B:=by
 refine zn _ (.inl (SqL.of hw)) ?_;rw [zq2,zq0 (fun z=>hl (by have:=of_decide_eq_true z;omega))];exact hB
theorem isL{K:W.Frag}{H:Hp}{a:Addr}{ts:List Str}{kw:Str}{A B:Hp->Prop}(hw:H a=some (.lst (ts.map V.str)))(h:∀H',Same H H'->(ts=[kw]->A H')/\(ts≠[kw]->B H')):
  ∀p,H p=none->zK K 0 (.ref a) (.ref p) (upd H p (.lst [.str kw])) fun x H'=>∃k,x=.bl k/\if k=true then A H' else B H':=by
 intro p hp;have s3:=Same.upd (o:=.lst [V.str kw]) hp;refine zn _ (ef (K:=K) (n:=0) (xs:=ts) (ys:=[kw]) (SqL.of (s3 _ _ hw)) (SqL.of ae)) (zn _ rfl ?_);obtain ⟨h1,h2⟩:=h _ s3
 by_cases e:ts=[kw]
 ·rw [zq5 e,zq1 rfl];exact h1 e
 ·rw [zq6 e,zq0 zq8];exact h2 e
theorem dpL{K:W.Frag}{H:Hp}{D:Addr}{sk:List Str}{A B:Prop}(hd:H D=some (.lst (sk.reverse.map V.str)))(h1:∀k r,sk=k::r->A)(h0:sk=[]->B):
  ∃ys,(SqL K H D ys\/SqT K H D ys)/\if decide ((0:Int)<(ys.length:Int))=true then A else B:=by
 refine zn _ (.inl (SqL.of hd)) ?_;rw [zq2,v9]
 cases sk with
 |nil=>rw [zq0 Jo];exact h0 rfl
 |cons k r=>rw [zq1 Jo];exact h1 k r rfl
theorem tY{l:List V}{x:V}:ixN (l++[x]).length (-1)=some l.length:=by unfold ixN;rw [zq0 Jm,cf,gi,zq1 Jn];congr 1;omega
theorem qQ(T:Txt K mg t):FnOk P w K mg base CX0 3 t.f_135 t.e_135 ["_law_lines_here","_law_boxes","_law_most"] (ky K):=by
 have G_131:=@jf P w K mg base t T;have G_134:=@ui P w K mg base t T;refine T.d_135.F.ok sc_135 ∅ ?_;rintro cdv A outer s H vs Q E hr ⟨L,B,m,rfl,tss,ns,most,rfl,hL,hok,hlen,hB,hn,q⟩;refine ⟨_,
   (XSs.h
   (ai
    (ar (i:=3) sc_135.nd rfl ll (aH af))
   (ai
    (ar (i:=4) sc_135.nd rfl ll ac)
   (ai
    (cc PassesOwn.never rfl (cr (yqv 0 vl)) (aK (i:=5) sc_135.nd rfl ll)
     (ai
      (ar (i:=6) sc_135.nd rfl ll (bS PySem.F.plainAttrs_str PySem.F.slot_str_split PySem.F.type_str_split fb (yqv 5 vl) (aa ao af)))
     (aj
      (aD (aW (bc (am bG (ax aq gl T.z_len PySem.boot_len (aa (yqv 6 vl) af)) ac (au _)) (b9 (am aU (aw aF (yqv 6 vl) ac) ao (au _)))))
       (ai
        (ar (i:=4) sc_135.nd rfl ll (ak aL (yqv 4 vl) ac))
       (aj
        (aD (ce (cO (aB T.d_134 G_134 hr.m (aa (yqv 6 vl) (aa (yqv 1 vl) (aa (yqv 2 vl) af))) gl)))
         (aj
          (av (cn bO ac)))
         ay)))
       (aj
        (aD (aW (bc (am (lJ (n:=0) (g9 Jm hr)) (yqv 6 vl) (aH (aa ao af)) (au _)) (b9 (am bG (ax aq gl T.z_len PySem.boot_len (aa (yqv 3 vl) af)) ac (au _)))))
         (aj
          (aR (js PySem.F.plainAttrs_list PySem.F.slot_list_pop PySem.F.type_list_pop lw (yqv 3 vl))))
         (aj
          (aD (aW (bc (am (lJ (n:=0) (g9 Jm hr)) (yqv 6 vl) (aH (aa ao af)) (au _)) (bc (am bG (ax aq gl T.z_len PySem.boot_len (aa (yqv 3 vl) af)) ac (au _)) (b9 (am aU (aw aF (yqv 3 vl) (cn bO ac)) ao (au _))))))
           (aj
            (ju ao (uW (yqv 3 vl) (cn bO ac) rO)))
           (aj
            (aD (aW (bc (am aU (ax aq gl T.z_len PySem.boot_len (aa (yqv 6 vl) af)) ac (au _)) (b9 (am aU (aw aF (yqv 6 vl) ac) ao (au _)))))
             (ai
              (ar (i:=4) sc_135.nd rfl ll (ak aL (yqv 4 vl) ac))
             (aj
              (aD (aW (bc (am bX (aw aF (yqv 6 vl) ac) (yqv 1 vl) rfl) (b9 (ce (cO (aB T.d_131 G_131 hr.m (aa (aw aF (yqv 6 vl) ac) (aa (yqv 2 vl) af)) gl))))))
               (aj
                (av (cn bO ac)))
               ay)))
             (aj
              (aD (aW (bc (am aU (ax aq gl T.z_len PySem.boot_len (aa (yqv 6 vl) af)) ac (au _)) (bc (am cS (aw aF (yqv 6 vl) ac) (bb (bp Jp)) rfl) (b9 (am cS (aw aF (yqv 6 vl) ac) (yqv 1 vl) rfl)))))
               (ai
                (ar (i:=4) sc_135.nd rfl ll (ak aL (yqv 4 vl) ac))
               (ai
                (aR (bS PySem.F.plainAttrs_list PySem.F.slot_list_append PySem.F.type_list_append bo (yqv 3 vl) (aa (aw aF (yqv 6 vl) ac) af)))
               (aj
                (aD (am bG (ax aq gl T.z_len PySem.boot_len (aa (yqv 3 vl) af)) ac (au _))
                 (aj
                  (av (cn bO ac)))
                 ay))))
               (aj
                (av (cn bO ac)))))))))))))))
   (ai
    (aD (aW (bN (am bG (ax aq gl T.z_len PySem.boot_len (aa (yqv 3 vl) af)) ac (au _)) (c4 (am bG (yqv 4 vl) ac (au _)))))
     (aj
      (av (cn bO ac)))
     ay)
   (aj
    (av (yqv 4 vl)))))))),?_⟩
 rw [show start _ [V.ref L,V.ref B,V.int (most:Int)]=[some (.ref L),some (.ref B),some (.int most),none,none,none,none] from rfl];simp_arith! [];intro D hD;refine ap ?_;simp_arith! [];refine ap ?_;simp_arith! [];refine ⟨⟨_,SqL.of (Same.upd hD _ _ hL)⟩,eZ (xs:=(tss.map jn).map V.str) (fun i σ H'=>Same H H'/\∃(sk:List Str)(n:Nat)(o5 o6:Option V),H' D=some (.lst (sk.reverse.map V.str))/\sk.length<=8/\J3.aI ns most [] 0 tss=J3.aI ns most sk n (tss.drop i)/\σ=[some (.ref L),some (.ref B),some (.int (most:Int)),some (.ref D),some (.int (n:Int)),o5,o6]) ⟨Same.upd hD,zAN ([]) 0 _ _ (zAG ae (eC _) rfl rfl)⟩ ?_ ?_ ?_⟩
 ·rintro i σ H' _ ⟨sm,_⟩;exact SqL.of (sm _ _ hL)
 ·rintro i x σ H1 hxi ⟨sm,sk,n,o5,o6,hd,hsk,hA,rfl⟩;rw [cA,cA] at hxi;obtain ⟨y,hy,rfl⟩:=zq46.mp hxi;obtain ⟨ts,hts,rfl⟩:=zq46.mp hy;have hk:=hok ts (dr hts);rw [cw hts] at hA;simp_arith only [];refine zAK (jn ts) (" ") rfl rfl Jk (by have:=J3.u0 hk;omega) fun l1 hl1'=>ap ?_;rw [J3.jr hk];have s2:=Same.upd (o:=.lst (ts.map V.str)) hl1';have hw:upd H1 l1 (.lst (ts.map V.str)) l1=some (.lst (ts.map V.str)):=ae;have hd2:=s2 _ _ hd;have sm2:=sm.trans s2;have hB2:=sm2 _ _ hB;generalize upd H1 l1 (.lst (ts.map V.str))=H2 at s2 hw hd2 sm2 hB2 ⊢;clear s2 hl1' hd sm;have no:J3.aI ns most sk n (ts::tss.drop (i+1))=none->∀H',Same H2 H'->Q (.int (-1)) H':=fun z H' s=>by have y:=q H' (sm2.trans s);rw [hA,z] at y;exact y
  have yes:∀sk' n' H' o5 o6,J3.aI ns most sk n (ts::tss.drop (i+1))=J3.aI ns most sk' n' (tss.drop (i+1))->Same H H'->H' D=some (.lst (sk'.reverse.map V.str))->sk'.length<=8->Same H H'/\∃(sk:List Str)(n:Nat)(o5' o6':Option V),H' D=some (.lst (sk.reverse.map V.str))/\sk.length<=8/\J3.aI ns most [] 0 tss=J3.aI ns most sk n (tss.drop (i+1))/\[some (V.ref L),some (V.ref B),some (V.int (most:Int)),some (V.ref D),some (V.int (n':Int)),o5,o6]=[some (V.ref L),some (V.ref B),some (V.int (most:Int)),some (V.ref D),some (V.int (n:Int)),o5',o6']:=fun sk' n' H' o5 o6 e s h1 h2=>⟨s,zAN sk' n' o5 o6 (zAG h1 h2 (hA.trans e) rfl)⟩
  by_cases hq:ts[1]?=some ("=":Str)
  ·have l1:1<ts.length:=(zq17.mp hq).1;simp_arith only [];refine zn _ (.inl (SqL.of hw)) ?_;rw [zq2,zq1 (by simp;omega)];refine zAC _ _ (SqL.of hw) (bt (j:=1) (by rw [cA,hq];rfl)) rfl (zn _ rfl ?_);rw [zq1 Jp];refine ap ?_;simp_arith only [];refine ap ?_;simp_arith only [xK];refine zAW ts ns most rfl hw hk hB2 hn fun H3 s3=>?_;refine zn _ rfl ?_
   cases ho:(J3.asF ns most ts).isSome with
   |true=>
    rw [zq0 Jm];refine ap ?_;simp_arith only [];exact yes sk (n+1) H3 _ _ (by rw [J3.mm hq,ho,zq1 rfl]) (sm2.trans s3) (s3 _ _ hd2) hsk
   |false=>rw [zq1 Jm];refine ap ?_;simp_arith only [];exact no (by rw [J3.mm hq,ho,zq0 zq8]) H3 s3
  simp_arith only [];refine Av hw hq (ap ?_);simp_arith only [];refine isL hw fun H3 s3=>⟨fun he=>?_,fun he=>ap ?_⟩
  ·subst he;refine dpL (s3 _ _ hd2) (fun k r hk=>ap ?_) (fun h0=>ap ?_)
   ·subst hk;simp_arith only [];have hd3:H3 D=some (.lst (r.reverse.map V.str++[V.str k])):=by rw [s3 _ _ hd2,t8,bI];rfl
    refine ⟨.inl ⟨rfl,_,SqL.of hd3⟩,zAA _ (V.str k) hd3 Jo ?_⟩;rw [List.dropLast_concat];exact yes r n _ _ _ J3.ve ((sm2.trans s3).updM hD) ae (by simp at hsk;omega)
   ·subst h0;simp_arith only [];refine isL (s3 _ _ hw) fun H4 s4=>⟨fun z=>absurd z Jk,fun _=>ap ?_⟩
    simp_arith only [];refine fY (s4 _ _ (s3 _ _ hw)) Jo (ap ?_);simp_arith only [];refine fY (s4 _ _ (s3 _ _ hw)) Jo (ap ?_);simp_arith only [];exact no J3.pR _ (s3.trans s4)
  simp_arith only [];refine isL (s3 _ _ hw) fun H4 s4=>⟨fun he2=>?_,fun he2=>ap ?_⟩
  ·subst he2;refine dpL (s4 _ _ (s3 _ _ hd2)) (fun k r hk=>?_) (fun h0=>ap ?_)
   ·subst hk;have hd4:H4 D=some (.lst (r.reverse.map V.str++[V.str k])):=by rw [s4 _ _ (s3 _ _ hd2),t8,bI];rfl
    refine zAC _ _ (SqL.of hd4) (L2.eS _ _) rfl (zn _ rfl ?_)
    by_cases hif:k="if"
    ·subst hif;rw [zq1 Jp];refine ap ?_;simp_arith only [];refine zAS D _ _ _ rfl rfl hd4 tY ?_;rw [List.set_append_right _ _ (zq9 _),Nat.sub_self];exact yes (("else":Str)::r) n _ _ _ J3.pQ ((sm2.trans (s3.trans s4)).updM hD) (by rw [ae,t8,bI];rfl) hsk
    ·rw [zq0 (by simpa using hif)];refine ap ?_;simp_arith only [];refine fY (s4 _ _ (s3 _ _ hw)) Jo (ap ?_);simp_arith only [];refine fY (s4 _ _ (s3 _ _ hw)) Jo (ap ?_);simp_arith only [];exact no (J3.gj (fun z=>hif (Option.some.inj z))) _ (s3.trans s4)
   ·subst h0;simp_arith only [];refine fY (s4 _ _ (s3 _ _ hw)) Jo (ap ?_);simp_arith only [];refine fY (s4 _ _ (s3 _ _ hw)) Jo (ap ?_);simp_arith only [];exact no (J3.gj Jo) _ (s3.trans s4)
  have s24:=s3.trans s4;have hw4:=s24 _ _ hw
  by_cases h2:ts.length=2
  ·obtain ⟨kx,x,rfl⟩:=l8 h2;have hx:x≠"=":=fun z=>hq (by rw [z];rfl);have hB4:=s24 _ _ hB2;have hd4:=s24 _ _ hd2;have sm4:=sm2.trans s24;simp_arith only [];refine zn _ (.inl (SqL.of hw4)) ?_;rw [zq1 Jp];refine zAC _ _ (SqL.of hw4) rfl rfl (zn _ rfl ?_)
   by_cases k1:kx="tell"
   ·subst k1;rw [zq1 Jp];refine ap ?_;simp_arith only [];refine ap ?_;simp_arith only [dn];refine zAA _ _ (SqL.of hw4) rfl (zAF _ (.inl (SqL.of hB4)) rfl cx ?_);rw [cC];have eo:=jg (most:=most) (x:=x) hn
    by_cases hm:x∈ns
    ·rw [zq5 hm,zq0 Jm];refine ap ?_;simp_arith only [];exact yes sk (n+1) H4 _ _ (by rw [J3.gz hx,eo,zq1 (by unfold opS;rw [zq5 hm];rfl)]) sm4 hd4 hsk
    ·rw [zq6 hm,zq1 Jm];rw [show opS ns most x=(c7 x&&decide (J3.bJ x<most)) by unfold opS;rw [zq6 hm,t9]] at eo;refine zAA _ _ (SqL.of hw4) rfl ?_;rw [dn];refine zAD most rfl (hk.2.2 x Jo) ?_;rw [<- eo];refine zn _ rfl ?_
     cases ho:(J3.opF ns most x).isSome with
     |true=>
      rw [zq0 Jm];refine ap ?_;simp_arith only [];exact yes sk (n+1) H4 _ _ (by rw [J3.gz hx,ho,zq1 rfl]) sm4 hd4 hsk
     |false=>rw [zq1 Jm];refine ap ?_;simp_arith only [];exact no (by rw [J3.gz hx,ho,zq0 zq8]) _ s24
   rw [zq0 (by simpa using k1)];refine ap ?_;simp_arith only [];refine zn _ (.inl (SqL.of hw4)) ?_;rw [zq1 Jp];refine zAA _ _ (SqL.of hw4) rfl fun p5 hp5=>?_;have s5:=Same.upd (o:=.tup [V.str (Str.ofString "if"),V.str (Str.ofString "while")]) hp5;refine zAF _ (.inr (SqT.of ae)) rfl rfl ?_;rw [show inV (.str kx) [.str "if",.str "while"]=decide (kx∈[("if":Str),("while":Str)]) from cC (ns:=[("if":Str),("while":Str)])];have hw5:=s5 _ _ hw4;have hB5:=s5 _ _ hB4;have hd5:=s5 _ _ hd4;have sm5:=sm4.trans s5;have s25:=s24.trans s5;generalize upd H4 p5 (.tup [V.str (Str.ofString "if"),V.str (Str.ofString "while")])=H5 at s5 hw5 hB5 hd5 sm5 s25 ⊢
   by_cases k2:kx∈[("if":Str),("while":Str)]
   ·have k2':kx="if"\/kx="while":=by simpa using k2
    rw [zq5 k2,zq1 rfl];refine zAA _ _ (SqL.of hw5) rfl (zAF _ (.inl (SqL.of hB5)) rfl cx ?_);rw [cC]
    by_cases hm:x∈ns
    ·rw [zq5 hm,zq1 rfl];have eB:=J3.dJ (ns:=ns) (most:=most) (σ:=sk) (n:=n) (r:=tss.drop (i+1)) hx k2';rw [zq1 hm] at eB;refine ap ?_;simp_arith only [];refine ap ?_;simp_arith only [];refine ⟨.inl ⟨rfl,_,SqL.of hd5⟩,zAA _ _ (SqL.of hw5) rfl (zAD _ hd5 (by rw [zq2,v9,zq3];omega) (ap ?_))⟩;simp_arith only [];have hd6:upd H5 D (.lst (sk.reverse.map V.str++[V.str kx])) D=some (.lst ((kx::sk).reverse.map V.str)):=by rw [ae,t8,bI];rfl
     refine zn _ (.inl (SqL.of hd6)) ?_;rw [zq2,v9,cF]
     by_cases h8:8<sk.length+1
     ·rw [zq1 (by simp;omega)];rw [zq1 h8] at eB;refine ap ?_;simp_arith only [];have y:=q _ (sm5.updM (o:=.lst (sk.reverse.map V.str++[V.str kx])) hD);rw [hA,eB] at y;exact y
     ·rw [zq0 (by simp;omega)];rw [zq0 h8] at eB;refine ap ?_;simp_arith only [];exact yes (kx::sk) (n+1) _ _ _ eB (sm5.updM hD) hd6 (by simp;omega)
    ·rw [zq6 hm,zq0 zq8];refine ap ?_;simp_arith only [];exact no (by rw [J3.dJ hx k2',zq0 hm]) _ s25
   ·rw [zq6 k2,zq0 zq8];refine ap ?_;simp_arith only [];exact no (J3.gx hq he he2 fun k' x' z=>by cases z;exact zAB k1 (fun z=>k2 (by rw [z];simp)) (fun z=>k2 (by rw [z];simp))) _ s25
  ·simp_arith only [];refine fY hw4 h2 (ap ?_);simp_arith only [];refine fY hw4 h2 (ap ?_);simp_arith only [];exact no (J3.gx hq he he2 fun k' x' z=>absurd (by rw [z];rfl) h2) _ s24
 ·rintro σ H1 ⟨sm,sk,n,o5,o6,hd,hsk,hA,rfl⟩;rw [zq2,zq2,List.drop_length] at hA;dsimp only;refine ap ?_;simp_arith! [];have z:=q H1 sm;rw [hA,J3.aI] at z;refine zn _ (.inl (SqL.of hd)) ?_;rw [zq2,v9]
  cases sk with
  |cons k sk=>
   rw [zq1 Jo,zq1 trivial];rw [zq0 (fun y=>by cases y.1)] at z;exact z
  |nil=>
   rw [zq0 Jo]
   by_cases h40:n<=40
   ·rw [zq0 (by simp;omega)];rw [zq1 ⟨rfl,h40⟩] at z;refine ap ?_;simp_arith! [];exact z
   ·rw [zq1 (by simp;omega)];rw [zq0 (fun y=>h40 y.2)] at z;exact z
def my(K:W.Frag)(L:Addr)(H:Hp)(Q:VK):Prop:=∃(tss:List (List Str)),H L=some (.lst ((tss.map jn).map V.str))/\(∀ts∈tss,J3.okT ts)/\tss.length<=200/\∀H',Same H H'->Q (.int (ans (J3.stF tss))) H'
def nH(K:W.Frag):Sp:=fun vs H Q _=>∃(L:Addr),vs=[.ref L]/\my K L H Q
theorem jo{K:W.Frag}{L:Addr}{H:Hp}{Q:VK}{E:XK}:nH K [.ref L] H Q E=my K L H Q:=propext ⟨by rintro ⟨_,e,q⟩;cases e;exact q,fun q=>zn _ rfl q⟩
theorem ix{w:Str}{bs b:List Str}{ls r:List (List Str)}(hn:bs.Nodup)(h:∀n∈bs,aX n=true)(e:J3.d5 w bs ls=some (b,r)):b.Nodup/\∀n∈b,aX n=true:=by
 rcases J3.gm w ls bs hn with ⟨b',r',e',hb,_,nd⟩ | ⟨e',_⟩
 ·rw [e'] at e
  cases e
  refine ⟨nd,fun n hn=>?_⟩;rw [hb] at hn;rcases zq10.mp hn with z | z
  ·exact h n z
  ·exact (fi w ls).2.1 n z
 ·rw [e'] at e;cases e
theorem ul(T:Txt K mg t):FnOk P w K mg base CX0 4 t.f_136 t.e_136 ["_law_lines_here"] (nH K):=by
 have G_131:=@jf P w K mg base t T;have G_133:=@qO P w K mg base t T;have G_135:=@qQ P w K mg base t T;refine T.d_136.F.ok sc_136 ∅ ?_;rintro cdv A outer s H vs Q E hr ⟨L,rfl,tss,hL,hok,hlen,q⟩;refine ⟨_,
   (XSs.h
   (bh
    (aD (am aU (ax aq gl T.z_len PySem.boot_len (aa (yqv 0 vl) af)) ac (au _))
     (aj
      (av (cn bO ac)))
     ay)
   (ai
    (ar (i:=1) sc_136.nd rfl ll (bS PySem.F.plainAttrs_str PySem.F.slot_str_split PySem.F.type_str_split fb (aw aF (yqv 0 vl) ac) (aa ao af)))
   (bh
    (aD (aW (bN (am dP (ax aq gl T.z_len PySem.boot_len (aa (yqv 1 vl) af)) ac (au _)) (bN (am dP (aw aF (yqv 1 vl) ac) ao (au _)) (bN (ce (cO (aB T.d_131 G_131 hr.m (aa (aw aF (yqv 1 vl) ac) (aa ac af)) gl))) (c4 (am aU (aw aF (yqv 1 vl) ac) ao (au _)))))))
     (aj
      (av (cn bO ac)))
     ay)
   (ai
    (ar (i:=2) sc_136.nd rfl ll (aH af))
   (ai
    (ar (i:=3) sc_136.nd rfl ll (aB T.d_133 G_133 hr.m (aa (yqv 0 vl) (aa ao (aa (yqv 2 vl) (aa ac af)))) gl))
   (bh
    (aD (aW (bN (am cy (yqv 3 vl) ac (au _)) (c4 (am bG (ax aq gl T.z_len PySem.boot_len (aa (yqv 2 vl) af)) ac (au _)))))
     (aj
      (av (cn bO ac)))
     ay)
   (ai
    (ar (i:=3) sc_136.nd rfl ll (aB T.d_133 G_133 hr.m (aa (yqv 0 vl) (aa ao (aa (yqv 2 vl) (aa (yqv 3 vl) af)))) gl))
   (bh
    (aD (aW (bN (am cy (yqv 3 vl) ac (au _)) (c4 (am bG (ax aq gl T.z_len PySem.boot_len (aa (yqv 2 vl) af)) ac (au _)))))
     (aj
      (av (cn bO ac)))
     ay)
   (aj
    (av (aB T.d_135 G_135 hr.m (aa (aV bu (yqv 0 vl) (aZ (yqv 3 vl)) bj) (aa (yqv 2 vl) (aa (ak fz ac (aQ da gl T.z_int boot_int (aa (aw aF (yqv 1 vl) ac) af))) af))) gl)))))))))))),?_⟩
 rw [show start _ [V.ref L]=[some (.ref L),none,none,none] from rfl];simp_arith! []
 cases tss with
 |nil=>
  refine zn (fun _ _=>False) ?_ fun _ _ h=>h.elim;refine zn _ (.inl (SqL.of hL)) ?_;rw [zq1 Jp];exact q H (Same.refl _)
 |cons ts r=>
  refine zn (fun σ H'=>H'=H/\σ=[some (.ref L),none,none,none]) ?_ ?_
  ·refine zn _ (.inl (SqL.of hL)) ?_;rw [zq0 (by simp;omega)];exact ⟨rfl,rfl⟩
  rintro σ H1 ⟨rfl,rfl⟩;have hk:=hok ts (bV ..);refine ap ?_;simp_arith! [];refine zAA _ _ (SqL.of hL) (bt (j:=0) rfl) ?_;refine ⟨rfl,zAK (jn ts) (" ") rfl rfl Jk (by have:=J3.u0 hk;omega) fun l1 hl1'=>ap ?_⟩;rw [J3.jr hk];have s2:=Same.upd (o:=.lst (ts.map V.str)) hl1';have hw:upd H1 l1 (.lst (ts.map V.str)) l1=some (.lst (ts.map V.str)):=ae;have hL2:=s2 _ _ hL;generalize upd H1 l1 (.lst (ts.map V.str))=H2 at s2 hw hL2 ⊢;simp_arith! [dn];have no:J3.stF (ts::r)=none->∀H',Same H2 H'->Q (.int (-1)) H':=fun z H' s=>by have y:=q H' (s2.trans s);rw [z] at y;exact y
  refine zn (fun σ H'=>H'=H2/\(∃x,ts=[("width":Str),x]/\c7 x=true/\J3.bJ x<9/\x≠"0")/\σ=[some (.ref L),some (.ref l1),none,none]) ?_ ?_
  ·refine zn _ (.inl (SqL.of hw)) ?_;rw [zq2]
   by_cases h2:ts.length=2
   ·obtain ⟨k,x,rfl⟩:=l8 h2;rw [zq0 (by show ¬(! decide ((2:Int)=2))=true;decide)];refine zAA _ _ (SqL.of hw) rfl ?_;simp_arith! [dn]
    by_cases hkw:k="width"
    ·subst hkw;rw [zq0 Jm];refine zAA _ _ (SqL.of hw) rfl ?_;rw [dn];refine zAD 9 rfl (hk.2.2 x Jo) ?_;refine zn _ rfl ?_
     by_cases hb:c7 x=true/\J3.bJ x<9
     ·rw [hb.1,zq5 hb.2,zq0 Jm];refine zAC _ _ (SqL.of hw) rfl rfl (zn _ rfl ?_)
      by_cases hx0:x="0"
      ·subst hx0;rw [zq1 Jp];exact no (by unfold J3.stF;dsimp only;rw [if_neg (fun z=>z.2.2.2 rfl)]) _ (Same.refl _)
      ·rw [zq0 (by simpa using hx0)];exact ⟨rfl,zAF x rfl hb.1 hb.2 hx0⟩
     ·rw [show (c7 x&&decide (J3.bJ x<9))=false from zq62.mpr fun z=>hb (by simpa using z),zq1 Jm,zq1 trivial];exact no (by unfold J3.stF;dsimp only;rw [if_neg (fun z=>hb ⟨z.2.1,z.2.2.1⟩)]) _ (Same.refl _)
    ·rw [zq1 (by simpa using hkw),zq1 trivial];exact no (by unfold J3.stF;dsimp only;rw [if_neg (fun z=>hkw z.1)]) _ (Same.refl _)
   ·rw [zq1 (by simp;omega),zq1 trivial];refine no ?_ _ (Same.refl _);unfold J3.stF
    split
    ·next e=>cases e;exact absurd rfl h2
    ·rfl
  rintro σ H3 ⟨rfl,⟨x,rfl,hnb,h9,hx0⟩,rfl⟩;have est:J3.stF ([("width":Str),x]::r)=J3.ir (2 ^ J3.bJ x) r:=by unfold J3.stF;dsimp only;rw [if_pos ⟨rfl,hnb,h9,hx0⟩]
  unfold J3.ir at est;have no:J3.stF ([("width":Str),x]::r)=none->∀H',Same H1 H'->Q (.int (-1)) H':=fun z H' s=>by have y:=q H' s;rw [z] at y;exact y
  refine ap ?_;simp_arith! [];intro B hB;refine ap ?_;have s3:=Same.upd (o:=.lst []) hB;simp_arith! [nv];refine zAR ([("width":Str),x]::r) ([]) 1 (zBA (s3 _ _ hL2) hok hlen ae Jo (aA hL2 hB) rfl Jo (fun b1 j1 H4 e1 hj1 sx4 hB4 lb1=>ap ?_) fun e1 H4 sx4=>ap ?_)
  rotate_left
  ·have s4:Same H1 H4:=fun c o e=>sx4 c o (s3 _ _ (s2 _ _ e)) (aA (s2 _ _ e) hB);simp_arith! [];refine zn (fun _ _=>False) ?_ fun _ _ h=>h.elim;rw [zq1 Jm,zq1 trivial];rw [show J3.d5 "in" [] r=none from e1] at est;exact no est _ s4
  have n4:∀{X:Hp},SameX B (upd H3 B (.lst [])) X->Same H3 X:=fun sx c o e=>sx c o (s3 _ _ e) (aA e hB);have s4:=n4 sx4;have e1':J3.d5 "in" [] r=some (b1,([("width":Str),x]::r).drop j1):=e1;obtain ⟨nd1,hn1⟩:=ix sM (fun n hn=>by cases hn) e1';rw [e1'] at est;dsimp only at est;simp_arith! [];refine zn (fun σ H'=>H'=H4/\b1.length<=4/\σ=[some (.ref L),some (.ref l1),some (.ref B),some (.int (j1:Int))]) ?_ ?_
  ·rw [zq0 Jo];refine zn _ (.inl (SqL.of hB4)) ?_;rw [zq2]
   by_cases h4:b1.length<=4
   ·rw [zq0 (by simp;omega)];exact zAB rfl h4 rfl
   ·rw [zq1 (by simp;omega)];rw [zq1 Jn] at est;exact no est _ (s2.trans s4)
  rintro σ H5 ⟨rfl,h4,rfl⟩;rw [zq0 Jn] at est;refine ap ?_;simp_arith! [nv];have hL4:=s4 _ _ hL2;have hLB:=aA hL2 hB;refine zAR ([("width":Str),x]::r) b1 j1 (zBA hL4 hok hlen hB4 Jn hLB rfl hj1 (fun b2 j2 H6 e2 hj2 sx6 hB6 lb2=>ap ?_) fun e2 H6 sx6=>ap ?_)
  rotate_left
  ·simp_arith! [];refine zn (fun _ _=>False) ?_ fun _ _ h=>h.elim;rw [zq1 Jm,zq1 trivial];rw [e2] at est;exact no est _ (s2.trans (n4 (sx4.trans sx6)))
  have s6:=n4 (sx4.trans sx6);obtain ⟨nd2,hn2⟩:=ix nd1 hn1 e2;rw [e2] at est;dsimp only at est;simp_arith! [];refine zn (fun σ H'=>H'=H6/\b2.length<=8/\σ=[some (.ref L),some (.ref l1),some (.ref B),some (.int (j2:Int))]) ?_ ?_
  ·rw [zq0 Jo];refine zn _ (.inl (SqL.of hB6)) ?_;rw [zq2]
   by_cases h8:b2.length<=8
   ·rw [zq0 (by simp;omega)];exact zAB rfl h8 rfl
   ·rw [zq1 (by simp;omega)];rw [zq1 Jn] at est;exact no est _ (s2.trans s6)
  rintro σ H7 ⟨rfl,h8,rfl⟩;rw [zq0 Jn] at est;refine ap ?_;simp_arith! [uJ];have hL7:=s6 _ _ hL2;have hw7:=s6 _ _ hw;refine zn _ (SqL.of hL7) fun ps hps=>?_;have s8:=Same.upd (o:=.lst (cL ((([("width":Str),x]::r).map jn).map V.str) (some (j2:Int)) none)) hps;obtain ⟨h1,h3⟩:=J3.jd hnb ((hk.2.2 x Jo).2.2.2 hnb);refine zAA _ _ (SqL.of (s8 _ _ hw7)) rfl (zAF (J3.bJ x:Nat) (by rw [h1]) Jn Jn ?_);refine ⟨zAB Jn Jn Jm,?_⟩;refine zAR (([("width":Str),x]::r).drop j2) b2 (2 ^ J3.bJ x) (zAV (by rw [jz,eQ];exact_mod_cast rfl) (by rw [ae,dZ Jn,eQ,pH,pH]) (fun ts ht=>hok ts (tf ht)) (by rw [jy];omega) (s8 _ _ hB6) hn2 fun H9 s9=>?_);have y:=q H9 ((s2.trans s6).trans (s8.trans s9));rw [est] at y;exact y
def pY(K:W.Frag)(d:Nat)(a:Addr)(H:Hp)(Q:VK):Prop:=∃(xs:List V)(ss:List Stm)(f:List Addr),H a=some (.lst xs)/\StmsV K H xs ss f/\aY ss<d/\∀H',Same H H'->Q (.int (aJ ss)) H'
def jq(K:W.Frag)(d:Nat):Sp:=fun vs H Q _=>∃a:Addr,vs=[.ref a]/\pY K d a H Q
theorem dA{K:W.Frag}{d:Nat}{a:Addr}{H:Hp}{Q:VK}{E:XK}:jq K d [.ref a] H Q E=pY K d a H Q:=propext ⟨by rintro ⟨_,e,q⟩;cases e;exact q,fun q=>zn _ rfl q⟩
theorem qf(T:Txt K mg t)(d:Nat)(G_139:FnOk P w K mg base CX0 (d+1) t.f_139 t.e_139 ["_law_rows"] (jq K d)):FnOk P w K mg base CX0 (d+2) t.f_139 t.e_139 ["_law_rows"] (jq K (d+1)):=by
 refine T.d_139.F.ok sc_139 ∅ ?_;rintro cdv A outer s H vs Q E hr ⟨a,rfl,xs,ss,f,ha,hx,hd,q⟩;refine ⟨_,
   (XSs.h
   (ai
    (ar (i:=1) sc_139.nd rfl ll ac)
   (ai
    (cc PassesOwn.never rfl (cr (yqv 0 vl)) (aK (i:=2) sc_139.nd rfl ll)
     (ai
      (ar (i:=1) sc_139.nd rfl ll (ak aL (yqv 1 vl) ac))
     (bh
      (aD (am cS (aw b5 (yqv 2 vl) ac) (bb (bp Jp)) rfl)
       (aj
        (ar (i:=1) sc_139.nd rfl ll (ak aL (yqv 1 vl) (aB T.d_139 G_139 hr.m (aa (aw b5 (yqv 2 vl) ac) af) gl))))
       ay)
     (aj
      (aD (am aU (aw b5 (yqv 2 vl) ac) ao (au _))
       (aj
        (ar (i:=1) sc_139.nd rfl ll (ak aL (yqv 1 vl) (aB T.d_139 G_139 hr.m (aa (aw b5 (yqv 2 vl) ac) af) gl))))
       ay)))))
   (aj
    (av (yqv 1 vl)))))),?_⟩
 rw [show start _ [V.ref a]=[some (.ref a),none,none] from rfl];simp_arith! [];have lx:=hx.length;refine ap ?_;simp_arith! [];refine ⟨⟨_,SqL.of ha⟩,eZ (xs:=xs) (fun i σ H'=>Same H H'/\∃o2,σ=[some (.ref a),some (.int (aJ (ss.take i))),o2]) ⟨Same.refl _,_,rfl⟩ (fun i σ H' _ h=>SqL.of (h.1 _ _ ha)) ?_ ?_⟩
 ·rintro i x σ H1 hxi ⟨s1,o2,rfl⟩;obtain ⟨st,f',hs,hsv,_⟩:=hx.get hxi;have hi:i<ss.length:=(zq17.mp hs).1;have hse:ss[i]=st:=(zq17.mp hs).2;have hds:=fA (dr hs);have em:(aJ (ss.take (i+1)):Int)=aJ (ss.take i)+st.many:=by rw [fP hi,hse,cm,aJ,aJ];omega
  have hsv1:=hsv.same s1;simp_arith! [];refine ap ?_
  cases hsv1 with
  | @deed q0 dd hf hq=>
   obtain ⟨k0,hk0,hin⟩:=qi hf;simp_arith! [dA];refine zn (fun σ H'=>Same H H'/\SqT K H' q0 dd.vs/\σ=[some (.ref a),some (.int ((aJ (ss.take i):Int)+1)),some (.ref q0)]) ?_ ?_
   ·refine zAA _ _ hq hk0 fun p1 hp1=>zAF _ (.inr (SqT.of ae)) rfl rfl ?_;rw [hin,zq0 zq8];exact zAB (s1.trans (Same.upd hp1)) ((Same.upd hp1).seqT hq) rfl
   rintro σ H2 ⟨s2,hq2,rfl⟩;refine ap ?_;simp_arith! [];refine zAC _ _ hq2 hk0 rfl (zn _ rfl ?_);rw [zq0 (fun z=>by have y:k0=Str.ofString "if":=V.str.inj (of_decide_eq_true z);rw [y] at hin;exact absurd hin Jk)];refine ⟨s2,some (.ref q0),by rw [em,Stm.many];rfl⟩
  | @ifs q0 a1 c1 n xs1 ys1 ones others f1 g1 hq ha1 hc1 h1 h2=>
   simp only [Stm.deep,Stm.many] at hds em;simp_arith! [dA];refine zn (fun σ H'=>Same H1 H'/\σ=[some (.ref a),some (.int ((aJ (ss.take i):Int)+1+aJ ones)),some (.ref q0)]) ?_ ?_
   ·refine zAA _ _ hq rfl fun p1 hp1=>zAF _ (.inr (SqT.of ae)) rfl rfl ?_;have t1:=Same.upd (o:=.tup [V.str (Str.ofString "if"),V.str (Str.ofString "while")]) hp1;rw [zq1 Jk];refine zAA _ _ (t1.seqT hq) rfl ?_;rw [dA];exact zAM xs1 ones f1 (t1 _ _ ha1) (h1.same t1) Jn fun H3 s3=>⟨t1.trans s3,rfl⟩
   rintro σ H2 ⟨s2,rfl⟩;refine ap ?_;simp_arith! [dA];refine zAA _ _ (s2.seqT hq) rfl ?_;simp_arith! [dA];rw [zq1 Jk];refine zAA _ _ (s2.seqT hq) rfl ?_;rw [dA];refine zAM ys1 others g1 (s2 _ _ hc1) (h2.same s2) Jn (fun H3 s3=>⟨(s1.trans s2).trans s3,some (.ref q0),by dsimp only;rw [show (aJ (ss.take i):Int)+1+aJ ones+aJ others=aJ (ss.take (i+1)) by rw [em];omega]⟩)
  | @whl q0 a1 n xs1 rows f1 hq ha1 h1=>
   simp only [Stm.deep,Stm.many] at hds em;simp_arith! [dA];refine zn (fun σ H'=>Same H1 H'/\σ=[some (.ref a),some (.int ((aJ (ss.take i):Int)+1+aJ rows)),some (.ref q0)]) ?_ ?_
   ·refine zAA _ _ hq rfl fun p1 hp1=>zAF _ (.inr (SqT.of ae)) rfl rfl ?_;have t1:=Same.upd (o:=.tup [V.str (Str.ofString "if"),V.str (Str.ofString "while")]) hp1;rw [zq1 Jk];refine zAA _ _ (t1.seqT hq) rfl ?_;rw [dA];exact zAM xs1 rows f1 (t1 _ _ ha1) (h1.same t1) Jn fun H3 s3=>⟨t1.trans s3,rfl⟩
   rintro σ H2 ⟨s2,rfl⟩;refine ap ?_;simp_arith! [dA];refine zAA _ _ (s2.seqT hq) rfl ?_;simp_arith! [dA];rw [zq0 Jk];refine ⟨s1.trans s2,some (.ref q0),by rw [show (aJ (ss.take i):Int)+1+aJ rows=aJ (ss.take (i+1)) by rw [em];omega]⟩
 ·rintro σ H' ⟨sm,o2,rfl⟩;rw [lx,fQ];dsimp only;refine ap ?_;simp_arith! [];exact q H' sm
theorem qM(T:Txt K mg t):∀d,FnOk P w K mg base CX0 (d+1) t.f_139 t.e_139 ["_law_rows"] (jq K d)
 |0=>⟨fun vs H Q E h=>by obtain ⟨_,_,_,_,_,_,_,h,_⟩:=h;omega,fun _ _ _ _ _ _ _ _ _ _ _ _ _ h=>by obtain ⟨_,_,_,_,_,_,_,h,_⟩:=h;omega⟩
 |d+1=>qf T d (qM T d)
def pV(K:W.Frag)(m:Int)(N:Addr)(wd:Int)(H:Hp)(Q:VK):Prop:=∃(ns:List Str),H N=some (.lst (ns.map V.str))/\NW ns wd/\ns.length<=100/\∀x H',Same H H'->J3.OkL x->Q (.str x) H'
def rR(K:W.Frag):Sp:=fun vs H Q _=>∃(m:Int)(N:Addr)(wd:Int),vs=[.int m,.ref N,.int wd]/\pV K m N wd H Q
theorem zW{K:W.Frag}{m:Int}{N:Addr}{wd:Int}{H:Hp}{Q:VK}{E:XK}:rR K [.int m,.ref N,.int wd] H Q E=pV K m N wd H Q:=propext ⟨by rintro ⟨_,_,_,e,q⟩;cases e;exact q,fun q=>zAI _ _ _ rfl q⟩
theorem gU{L:List Str}{z:Int}(h:L≠[]):∃v∈L,atI (L.map V.str) (z % (L.length:Int))=some (.str v):=by
 have hl:0<L.length:=zq59.mpr h;have h0:=cB z (show (L.length:Int)≠0 by omega);have h1:=d4 z (show (0:Int)<L.length by omega);obtain ⟨j,hj⟩:=i4 h0;have hjl:j<L.length:=by omega
 exact zn (L[j]) (pG hjl) (by rw [hj];exact bt (by rw [cA,dI hjl];rfl))
theorem bQ{a b:Str}(ha:a.length<=1000)(hb:b.length<=1000):a.length+b.length<=sizeLine:=by rw [zq3];omega
theorem wN{a b:Str}(ha:a.length<=100)(hb:b.length<=100):(a++b).length<=1000:=by rw [strLen_append];omega
theorem zA{i:Int}(h0:0<=i)(h1:i<=256):i.natAbs.log2<1920:=by
 by_cases z:i.natAbs=0
 ·rw [z];decide
 ·rw [Nat.log2_lt z]
  calc i.natAbs<2 ^ 9:=by omega
   _<=2 ^ 1920:=mi Jm Jm
def i5(n g:Str):List Str:=[("end":Str),("else":Str),("if ":Str)++n,("while ":Str)++n,("tell ":Str)++n,("tell ":Str)++g]
theorem tH{n g:Str}(hn:J3.okX n)(hg:J3.okX g):∀x∈i5 n g,J3.OkL x:=by
 unfold i5;simp only [List.mem_cons,List.not_mem_nil,or_false];rintro x (rfl | rfl | rfl | rfl | rfl | rfl)
 ·exact J3.aP [("end":Str)] Jk Jk
 ·exact J3.aP [("else":Str)] Jk Jk
 ·exact J3.dk "if" Jk Jk hn
 ·exact J3.dk "while" Jk Jk hn
 ·exact J3.dk "tell" Jk Jk hn
 ·exact J3.dk "tell" Jk Jk hg
def dD(n g:Str):List Str:=[("tell 01":Str),("tell":Str),("tell 0 0":Str)]
theorem tI{n g:Str}(hn:J3.okX n)(hg:J3.okX g):∀x∈dD n g,J3.OkL x:=by
 unfold dD;simp only [List.mem_cons,List.not_mem_nil,or_false];rintro x (rfl | rfl | rfl)
 ·exact J3.aP [("tell":Str),("01":Str)] Jk Jk
 ·exact J3.aP [("tell":Str)] Jk Jk
 ·exact J3.aP [("tell":Str),("0":Str),("0":Str)] Jk Jk
def dE(n g:Str):List Str:=[(n++(" = ":Str))++g,n++(" = 0":Str),n++(" = 0 plus":Str),n++(" = 0 plus 0":Str),n++(" = 0 add 0":Str)]
theorem tJ{n g:Str}(hn:J3.okX n)(hg:J3.okX g):∀x∈dE n g,J3.OkL x:=by
 unfold dE;simp only [List.mem_cons,List.not_mem_nil,or_false];rintro x (rfl | rfl | rfl | rfl | rfl)
 ·exact J3.qN hn hg
 ·exact J3.d6 "=" [("0":Str)] Jk Jm Jk hn
 ·exact J3.d6 "=" [("0":Str),("plus":Str)] Jk Jm Jk hn
 ·exact J3.d6 "=" [("0":Str),("plus":Str),("0":Str)] Jk Jm Jk hn
 ·exact J3.d6 "=" [("0":Str),("add":Str),("0":Str)] Jk Jm Jk hn
def dF(n g:Str):List Str:=[n++(" = 0 plus 0 plus 0":Str),n++(" =":Str),("= 0":Str),n++("  = 0":Str),(" tell 0":Str),("tell 0 ":Str),("":Str),("if 0":Str)]
theorem tK{n g:Str}(hn:J3.okX n)(hg:J3.okX g):∀x∈dF n g,J3.OkL x:=by
 unfold dF;simp only [List.mem_cons,List.not_mem_nil,or_false];rintro x (rfl | rfl | rfl | rfl | rfl | rfl | rfl | rfl)
 ·exact J3.d6 "=" [("0":Str),("plus":Str),("0":Str),("plus":Str),("0":Str)] Jk Jm Jk hn
 ·exact J3.d6 "=" [] Jk Jm Jk hn
 ·exact J3.aP [("=":Str),("0":Str)] Jk Jk
 ·exact J3.d6 "" [("=":Str),("0":Str)] Jk Jm Jk hn
 ·exact J3.aP [("":Str),("tell":Str),("0":Str)] Jk Jk
 ·exact J3.aP [("tell":Str),("0":Str),("":Str)] Jk Jk
 ·exact J3.aP [("":Str)] Jk Jk
 ·exact J3.aP [("if":Str),("0":Str)] Jk Jk
def dG(n g:Str):List Str:=[("zzzzzz = 0":Str),("in ":Str)++n,("box ":Str)++n,("box zzzzzy":Str),("in zzzzzx":Str),("width 3":Str),("IF ":Str)++n]
theorem tL{n g:Str}(hn:J3.okX n)(hg:J3.okX g):∀x∈dG n g,J3.OkL x:=by
 unfold dG;simp only [List.mem_cons,List.not_mem_nil,or_false];rintro x (rfl | rfl | rfl | rfl | rfl | rfl | rfl)
 ·exact J3.aP [("zzzzzz":Str),("=":Str),("0":Str)] Jk Jk
 ·exact J3.dk "in" Jk Jk hn
 ·exact J3.dk "box" Jk Jk hn
 ·exact J3.aP [("box":Str),("zzzzzy":Str)] Jk Jk
 ·exact J3.aP [("in":Str),("zzzzzx":Str)] Jk Jk
 ·exact J3.aP [("width":Str),("3":Str)] Jk Jk
 ·exact J3.dk "IF" Jk Jk hn
def dH(n g:Str):List Str:=[n++(" = -1":Str),n++(" = +0":Str),n++(" = 1_0":Str),("end ":Str)++n,("box zzzzzzz":Str),("box Ab":Str),("if = 0":Str)]
theorem tM{n g:Str}(hn:J3.okX n)(hg:J3.okX g):∀x∈dH n g,J3.OkL x:=by
 unfold dH;simp only [List.mem_cons,List.not_mem_nil,or_false];rintro x (rfl | rfl | rfl | rfl | rfl | rfl | rfl)
 ·exact J3.d6 "=" [("-1":Str)] Jk Jm Jk hn
 ·exact J3.d6 "=" [("+0":Str)] Jk Jm Jk hn
 ·exact J3.d6 "=" [("1_0":Str)] Jk Jm Jk hn
 ·exact J3.dk "end" Jk Jk hn
 ·exact J3.aP [("box":Str),("zzzzzzz":Str)] Jk Jk
 ·exact J3.aP [("box":Str),("Ab":Str)] Jk Jk
 ·exact J3.aP [("if":Str),("=":Str),("0":Str)] Jk Jk
def d9(n g:Str):List Str:=[("box x1":Str),("in a_b":Str),("box a-b":Str),("in zZ":Str),("box 7":Str),("box a.":Str),("in":Str),("box z z":Str)]
theorem tN{n g:Str}(hn:J3.okX n)(hg:J3.okX g):∀x∈d9 n g,J3.OkL x:=by
 unfold d9;simp only [List.mem_cons,List.not_mem_nil,or_false];rintro x (rfl | rfl | rfl | rfl | rfl | rfl | rfl | rfl)
 ·exact J3.aP [("box":Str),("x1":Str)] Jk Jk
 ·exact J3.aP [("in":Str),("a_b":Str)] Jk Jk
 ·exact J3.aP [("box":Str),("a-b":Str)] Jk Jk
 ·exact J3.aP [("in":Str),("zZ":Str)] Jk Jk
 ·exact J3.aP [("box":Str),("7":Str)] Jk Jk
 ·exact J3.aP [("box":Str),("a.":Str)] Jk Jk
 ·exact J3.aP [("in":Str)] Jk Jk
 ·exact J3.aP [("box":Str),("z":Str),("z":Str)] Jk Jk
theorem xk(T:Txt K mg t):FnOk P w K mg base CX0 1 t.f_137 t.e_137 ["_law_mixed_here","_law_names_here","_law_width"] (rR K):=by
 refine T.d_137.F.ok sc_137 ∅ ?_;rintro cdv A outer s H vs Q E hr ⟨m,N,wd,rfl,ns,hN,hW,ln,q⟩;refine ⟨_,
   (XSs.h
   (ai
    (ar (i:=3) sc_137.nd rfl ll (aw aF (ak aT (yqv 1 vl) (aH (aa ao af))) (ak aN (ak aM (yqv 0 vl) ac) (ak aL (ax aq gl T.z_len PySem.boot_len (aa (yqv 1 vl) af)) ac))))
   (ai
    (ar (i:=4) sc_137.nd rfl ll (aQ eU gl T.z_str boot_str (aa (ak fz ac (yqv 2 vl)) af)))
   (ai
    (ar (i:=5) sc_137.nd rfl ll (aH (aa ao (aa ao (aa (ak aC ao (yqv 3 vl)) (aa (ak aC ao (yqv 3 vl)) (aa (ak aC ao (yqv 3 vl)) (aa (ak aC ao (yqv 4 vl)) af))))))))
   (ai
    (ar (i:=5) sc_137.nd rfl ll (ak aT (yqv 5 vl) (aH (bp Jp))))
   (ai
    (ar (i:=5) sc_137.nd rfl ll (ak aT (yqv 5 vl) (aH (aa (ak aC (ak aC (yqv 3 vl) ao) (yqv 4 vl)) (aa (ak aC (yqv 3 vl) ao) (aa (ak aC (yqv 3 vl) ao) (aa (ak aC (yqv 3 vl) ao) (aa (ak aC (yqv 3 vl) ao) af))))))))
   (ai
    (ar (i:=5) sc_137.nd rfl ll (ak aT (yqv 5 vl) (aH (aa (ak aC (yqv 3 vl) ao) (aa (ak aC (yqv 3 vl) ao) (aa ao (aa (ak aC (yqv 3 vl) ao) (bp Jp))))))))
   (ai
    (ar (i:=5) sc_137.nd rfl ll (ak aT (yqv 5 vl) (aH (aa ao (aa (ak aC ao (yqv 3 vl)) (aa (ak aC ao (yqv 3 vl)) (aa ao (aa ao (aa ao (aa (ak aC ao (yqv 3 vl)) af))))))))))
   (ai
    (ar (i:=5) sc_137.nd rfl ll (ak aT (yqv 5 vl) (aH (aa (ak aC (yqv 3 vl) ao) (aa (ak aC (yqv 3 vl) ao) (aa (ak aC (yqv 3 vl) ao) (aa (ak aC ao (yqv 3 vl)) (bp Jp))))))))
   (ai
    (ar (i:=5) sc_137.nd rfl ll (ak aT (yqv 5 vl) (aH (bp Jp))))
   (aj
    (av (aw aF (yqv 5 vl) (ak aN (yqv 0 vl) (ax aq gl T.z_len PySem.boot_len (aa (yqv 5 vl) af)))))))))))))))),?_⟩
 rw [show start _ [V.int m,V.ref N,V.int wd]=[some (.int m),some (.ref N),some (.int wd),none,none,none] from rfl];simp_arith! [];intro px hpx;have sx:=Same.upd (o:=.lst [V.str (Str.ofString "x")]) hpx;refine zAC _ _ (sx _ _ hN) ae (by rw [zq3];simp;omega) fun pn hpn=>?_;have s1:=sx.trans (Same.upd (o:=.lst (ns.map V.str++[V.str (Str.ofString "x")])) hpn);have hn1:upd (upd H px (.lst [V.str (Str.ofString "x")])) pn (.lst (ns.map V.str++[V.str (Str.ofString "x")])) pn=some (.lst ((ns++[("x":Str)]).map V.str)):=by rw [ae,bI];rfl
 generalize upd (upd H px (.lst [V.str (Str.ofString "x")])) pn (.lst (ns.map V.str++[V.str (Str.ofString "x")]))=H1 at s1 hn1 ⊢;refine ⟨CDivB.small Jm Jm,zAD _ (.inl (SqL.of (s1 _ _ hN))) Jn ?_⟩;rw [zq2];obtain ⟨n,hnm,hpick⟩:=gU (L:=ns++[("x":Str)]) (z:=m / 50) Jo;rw [cf,gi] at hpick;have hn:J3.okX n:=by
  rcases zq10.mp hnm with z | z
  ·exact J3.dO (hW.1 n z)
  ·rw [zq15.mp z];exact J3.eO Jk
 refine zAA _ _ (SqL.of hn1) hpick (ap ?_);have ln1:n.length<=100:=by have:=hn.2.2.1;omega
 have ln:n.length<=1000:=by omega
 simp_arith! [];have p8:(2:Int) ^ wd.toNat<=2 ^ 8:=by
  have:=hW.2.2
  exact_mod_cast mi Jm Jn
 have p0:(0:Int)<=2 ^ wd.toNat:=ma _;have hg:J3.okX (toString ((1:Int) * 2 ^ wd.toNat)):=J3.je (by rw [jz];exact p0) (by rw [jz];exact p8);refine ⟨zAB hW.2.1 (by have:=hW.2.2;omega) Jm,?_⟩;refine ⟨zA (by rw [jz];exact p0) (by rw [jz];exact p8),ap ?_⟩;generalize (toString ((1:Int) * 2 ^ wd.toNat):Str)=g at hg ⊢;have lg:g.length<=1000:=by have:=hg.2.2.1;omega
 simp_arith! [];have q1:∀x H',Same H1 H'->J3.OkL x->Q (.str x) H':=fun x H' s=>q x H' (s1.trans s);clear q s1 hN hn1 hpick hnm;refine zAH (bQ Jk ln) (bQ Jk ln) (bQ Jk ln) (bQ Jk lg) fun p1 hp1=>?_;have t1:=Same.upd (o:=.lst ((i5 n g).map V.str)) hp1;have e1:upd H1 p1 (.lst ((i5 n g).map V.str)) p1=some (.lst ((i5 n g).map V.str)):=ae;change du _ _ _ (upd H1 p1 (.lst ((i5 n g).map V.str)));generalize upd H1 p1 (.lst ((i5 n g).map V.str))=H2 at t1 e1 ⊢;have k1:=tH hn hg;have l1:(i5 n g).length<=10:=by unfold i5;simp
 generalize i5 n g=L1 at e1 k1 l1;refine ap ?_;simp_arith! [];refine fun q2 hq2=>?_;have u2:=Same.upd (o:=.lst ((dD n g).map V.str)) hq2;have f2:upd H2 q2 (.lst ((dD n g).map V.str)) q2=some (.lst ((dD n g).map V.str)):=ae;refine zAC _ _ (u2 _ _ e1) f2 (by rw [zq3,zq2];simp [dD];omega) fun p2 hp2=>?_;rw [<- bI];have t2:=(t1.trans u2).trans (Same.upd (o:=.lst ((L1++dD n g).map V.str)) hp2);have e2:upd (upd H2 q2 (.lst ((dD n g).map V.str))) p2 (.lst ((L1++dD n g).map V.str)) p2=some (.lst ((L1++dD n g).map V.str)):=ae;change du _ _ _ (upd (upd H2 q2 (.lst ((dD n g).map V.str))) p2 (.lst ((L1++dD n g).map V.str)));generalize upd (upd H2 q2 (.lst ((dD n g).map V.str))) p2 (.lst ((L1++dD n g).map V.str))=H3 at t2 e2 ⊢;have k2:∀x∈L1++dD n g,J3.OkL x:=fun x hx=>(zq10.mp hx).elim (k1 x) (tI hn hg x);have l2:(L1++dD n g).length<=20:=by rw [cf];simp [dD];omega
 generalize L1++dD n g=L2 at e2 k2 l2;clear u2 f2 e1 t1 k1 l1;refine ap ?_;simp_arith! [];refine zAV (bQ ln Jk) (bQ (wN ln1 Jk) lg) (bQ ln Jk) (bQ ln Jk) (bQ ln Jk) (bQ ln Jk) fun q3 hq3=>?_;have u3:=Same.upd (o:=.lst ((dE n g).map V.str)) hq3;have f3:upd H3 q3 (.lst ((dE n g).map V.str)) q3=some (.lst ((dE n g).map V.str)):=ae;refine zAC _ _ (u3 _ _ e2) f3 (by rw [zq3,zq2];simp [dE];omega) fun p3 hp3=>?_;rw [<- bI];have t3:=(t2.trans u3).trans (Same.upd (o:=.lst ((L2++dE n g).map V.str)) hp3);have e3:upd (upd H3 q3 (.lst ((dE n g).map V.str))) p3 (.lst ((L2++dE n g).map V.str)) p3=some (.lst ((L2++dE n g).map V.str)):=ae;change du _ _ _ (upd (upd H3 q3 (.lst ((dE n g).map V.str))) p3 (.lst ((L2++dE n g).map V.str)));generalize upd (upd H3 q3 (.lst ((dE n g).map V.str))) p3 (.lst ((L2++dE n g).map V.str))=H4 at t3 e3 ⊢;have k3:∀x∈L2++dE n g,J3.OkL x:=fun x hx=>(zq10.mp hx).elim (k2 x) (tJ hn hg x);have l3:(L2++dE n g).length<=30:=by rw [cf];simp [dE];omega
 generalize L2++dE n g=L3 at e3 k3 l3;clear u3 f3 e2 t2 k2 l2;refine ap ?_;simp_arith! [];refine zAG (bQ ln Jk) (bQ ln Jk) (bQ ln Jk) fun q4 hq4=>?_;have u4:=Same.upd (o:=.lst ((dF n g).map V.str)) hq4;have f4:upd H4 q4 (.lst ((dF n g).map V.str)) q4=some (.lst ((dF n g).map V.str)):=ae;refine zAC _ _ (u4 _ _ e3) f4 (by rw [zq3,zq2];simp [dF];omega) fun p4 hp4=>?_;rw [<- bI];have t4:=(t3.trans u4).trans (Same.upd (o:=.lst ((L3++dF n g).map V.str)) hp4);have e4:upd (upd H4 q4 (.lst ((dF n g).map V.str))) p4 (.lst ((L3++dF n g).map V.str)) p4=some (.lst ((L3++dF n g).map V.str)):=ae;change du _ _ _ (upd (upd H4 q4 (.lst ((dF n g).map V.str))) p4 (.lst ((L3++dF n g).map V.str)));generalize upd (upd H4 q4 (.lst ((dF n g).map V.str))) p4 (.lst ((L3++dF n g).map V.str))=H5 at t4 e4 ⊢;have k4:∀x∈L3++dF n g,J3.OkL x:=fun x hx=>(zq10.mp hx).elim (k3 x) (tK hn hg x);have l4:(L3++dF n g).length<=40:=by rw [cf];simp [dF];omega
 generalize L3++dF n g=L4 at e4 k4 l4;clear u4 f4 e3 t3 k3 l3;refine ap ?_;simp_arith! [];refine zAG (bQ Jk ln) (bQ Jk ln) (bQ Jk ln) fun q5 hq5=>?_;have u5:=Same.upd (o:=.lst ((dG n g).map V.str)) hq5;have f5:upd H5 q5 (.lst ((dG n g).map V.str)) q5=some (.lst ((dG n g).map V.str)):=ae;refine zAC _ _ (u5 _ _ e4) f5 (by rw [zq3,zq2];simp [dG];omega) fun p5 hp5=>?_;rw [<- bI];have t5:=(t4.trans u5).trans (Same.upd (o:=.lst ((L4++dG n g).map V.str)) hp5);have e5:upd (upd H5 q5 (.lst ((dG n g).map V.str))) p5 (.lst ((L4++dG n g).map V.str)) p5=some (.lst ((L4++dG n g).map V.str)):=ae;change du _ _ _ (upd (upd H5 q5 (.lst ((dG n g).map V.str))) p5 (.lst ((L4++dG n g).map V.str)));generalize upd (upd H5 q5 (.lst ((dG n g).map V.str))) p5 (.lst ((L4++dG n g).map V.str))=H6 at t5 e5 ⊢;have k5:∀x∈L4++dG n g,J3.OkL x:=fun x hx=>(zq10.mp hx).elim (k4 x) (tL hn hg x);have l5:(L4++dG n g).length<=50:=by rw [cf];simp [dG];omega
 generalize L4++dG n g=L5 at e5 k5 l5;clear u5 f5 e4 t4 k4 l4;refine ap ?_;simp_arith! [];refine zAH (bQ ln Jk) (bQ ln Jk) (bQ ln Jk) (bQ Jk ln) fun q6 hq6=>?_;have u6:=Same.upd (o:=.lst ((dH n g).map V.str)) hq6;have f6:upd H6 q6 (.lst ((dH n g).map V.str)) q6=some (.lst ((dH n g).map V.str)):=ae;refine zAC _ _ (u6 _ _ e5) f6 (by rw [zq3,zq2];simp [dH];omega) fun p6 hp6=>?_;rw [<- bI];have t6:=(t5.trans u6).trans (Same.upd (o:=.lst ((L5++dH n g).map V.str)) hp6);have e6:upd (upd H6 q6 (.lst ((dH n g).map V.str))) p6 (.lst ((L5++dH n g).map V.str)) p6=some (.lst ((L5++dH n g).map V.str)):=ae;change du _ _ _ (upd (upd H6 q6 (.lst ((dH n g).map V.str))) p6 (.lst ((L5++dH n g).map V.str)));generalize upd (upd H6 q6 (.lst ((dH n g).map V.str))) p6 (.lst ((L5++dH n g).map V.str))=H7 at t6 e6 ⊢;have k6:∀x∈L5++dH n g,J3.OkL x:=fun x hx=>(zq10.mp hx).elim (k5 x) (tM hn hg x);have l6:(L5++dH n g).length<=60:=by rw [cf];simp [dH];omega
 generalize L5++dH n g=L6 at e6 k6 l6;clear u6 f6 e5 t5 k5 l5;refine ap ?_;simp_arith! [];refine fun q7 hq7=>?_;have u7:=Same.upd (o:=.lst ((d9 n g).map V.str)) hq7;have f7:upd H7 q7 (.lst ((d9 n g).map V.str)) q7=some (.lst ((d9 n g).map V.str)):=ae;refine zAC _ _ (u7 _ _ e6) f7 (by rw [zq3,zq2];simp [d9];omega) fun p7 hp7=>?_;rw [<- bI];have t7:=(t6.trans u7).trans (Same.upd (o:=.lst ((L6++d9 n g).map V.str)) hp7);have e7:upd (upd H7 q7 (.lst ((d9 n g).map V.str))) p7 (.lst ((L6++d9 n g).map V.str)) p7=some (.lst ((L6++d9 n g).map V.str)):=ae;change du _ _ _ (upd (upd H7 q7 (.lst ((d9 n g).map V.str))) p7 (.lst ((L6++d9 n g).map V.str)));generalize upd (upd H7 q7 (.lst ((d9 n g).map V.str))) p7 (.lst ((L6++d9 n g).map V.str))=H8 at t7 e7 ⊢;have k7:∀x∈L6++d9 n g,J3.OkL x:=fun x hx=>(zq10.mp hx).elim (k6 x) (tN hn hg x);have l7:(L6++d9 n g).length<=70:=by rw [cf];simp [d9];omega
 have ne:L6++d9 n g≠[]:=by simp [d9]
 generalize L6++d9 n g=L7 at e7 k7 l7 ne;clear u7 f7 e6 t6 k6 l6;refine ap ?_;simp_arith! [];obtain ⟨v,hv,hp⟩:=gU (L:=L7) (z:=m) ne;have lp:0<L7.length:=zq59.mpr ne;refine zAD _ (.inl (SqL.of e7)) (by rw [zq2];omega) (zAA _ _ (SqL.of e7) (by rw [zq2];exact hp) (q1 v H8 t7 (k7 v hv)))
def OkLs(L:List Str):Prop:=∀x∈L,J3.OkL x
theorem OkLs.app{a b:List Str}(ha:OkLs a)(hb:OkLs b):OkLs (a++b):=fun x hx=>(zq10.mp hx).elim (ha x) (hb x)
theorem OkLs.take{a:List Str}(h:OkLs a){n:Nat}:OkLs (a.take n):=fun x hx=>h x (tj hx)
theorem OkLs.drop{a:List Str}(h:OkLs a){n:Nat}:OkLs (a.drop n):=fun x hx=>h x (tf hx)
theorem OkLs.one{x:Str}(h:J3.OkL x):OkLs [x]:=fun y hy=>by rw [zq15.mp hy];exact h
theorem OkLs.rng{f:Nat->Str}{n:Nat}(h:∀i,i<n->J3.OkL (f i)):OkLs ((List.range n).map f):=fun x hx=>by obtain ⟨i,hi,rfl⟩:=zq37.mp hx;exact h i (zq50.mp hi)
def zzS(k:Str)(i:Nat):Str:=k++⟨#[97+i]⟩
theorem tu:∀i,i<10->J3.oG [("box":Str),("zz":Str)++⟨#[97+i]⟩]=true/\jn [("box":Str),("zz":Str)++⟨#[97+i]⟩]=zzS "box zz" i:=by decide +kernel
theorem wG:∀i,i<10->J3.oG [("in":Str),("zz":Str)++⟨#[97+i]⟩]=true/\jn [("in":Str),("zz":Str)++⟨#[97+i]⟩]=zzS "in zz" i:=by decide +kernel
theorem pN:∀i,i<10->atI (Str.ofString "abcdefghij").cps.toList (i:Nat)=some (97+i):=by decide +kernel
def wL:List Str:=["width 0","width 9","width","width 08","Width 2","width 2 "]
theorem AE:OkLs wL:=by
 unfold wL OkLs;simp only [List.mem_cons,List.not_mem_nil,or_false];rintro x (rfl | rfl | rfl | rfl | rfl | rfl)
 ·exact J3.aP [("width":Str),("0":Str)] Jk Jk
 ·exact J3.aP [("width":Str),("9":Str)] Jk Jk
 ·exact J3.aP [("width":Str)] Jk Jk
 ·exact J3.aP [("width":Str),("08":Str)] Jk Jk
 ·exact J3.aP [("Width":Str),("2":Str)] Jk Jk
 ·exact J3.aP [("width":Str),("2":Str),("":Str)] Jk Jk
theorem qg{L:List Str}{k:Nat}:cL (L.map V.str) none (some (k:Int))=(L.take k).map V.str:=by rw [j3 Jn,eQ,tq]
theorem oi{L:List Str}{k:Nat}:cL (L.map V.str) (some (k:Int)) none=(L.drop k).map V.str:=by rw [dZ Jn,eQ,pH]
def qb(K:W.Frag)(L:Addr)(m:Int)(N:Addr)(wd:Int)(H:Hp)(Q:VK):Prop:=∃(L0 ns:List Str),H L=some (.lst (L0.map V.str))/\OkLs L0/\L0.length<=120/\H N=some (.lst (ns.map V.str))/\NW ns wd/\ns.length<=100/\
 ∀p L1 H',Same H H'->H' p=some (.lst (L1.map V.str))->OkLs L1->L1.length<=200->Q (.ref p) H'
def rX(K:W.Frag):Sp:=fun vs H Q _=>∃(L:Addr)(m:Int)(N:Addr)(wd:Int),vs=[.ref L,.int m,.ref N,.int wd]/\qb K L m N wd H Q
theorem rK{K:W.Frag}{L:Addr}{m:Int}{N:Addr}{wd:Int}{H:Hp}{Q:VK}{E:XK}:rX K [.ref L,.int m,.ref N,.int wd] H Q E=qb K L m N wd H Q:=propext ⟨by rintro ⟨_,_,_,_,e,q⟩;cases e;exact q,fun q=>zAO _ _ _ _ rfl q⟩
theorem xo(T:Txt K mg t):FnOk P w K mg base CX0 2 t.f_138 t.e_138 ["_law_lines_here","_law_mixed_here","_law_names_here","_law_width"] (rX K):=by
 have G_137:=@xk P w K mg base t T;refine T.d_138.F.ok sc_138 ∅ ?_;rintro cdv A outer s H vs Q E hr ⟨L,m,N,wd,rfl,L0,ns,hL,hok,lL,hN,hW,ln,q⟩;refine ⟨_,
   (XSs.h
   (ai
    (ar (i:=4) sc_138.nd rfl ll (ak aN (yqv 1 vl) ac))
   (ai
    (ar (i:=5) sc_138.nd rfl ll (ak aN (ak aM (yqv 1 vl) ac) (ak aL (ax aq gl T.z_len PySem.boot_len (aa (yqv 0 vl) af)) ac)))
   (ai
    (ar (i:=6) sc_138.nd rfl ll (aB T.d_137 G_137 hr.m (aa (ak aM (yqv 1 vl) ac) (aa (yqv 2 vl) (aa (yqv 3 vl) af))) gl))
   (ai
    (ar (i:=7) sc_138.nd rfl lc (aw aF (ak aT (yqv 2 vl) (aH (aa ao af))) ac))
   (ai
    (aD (am aU (yqv 4 vl) ac (au _))
     (aj
      (av (ak aT (yqv 0 vl) (bM (tns:=["_law_k"]) (cns:=[]) (ci:=[]) rfl (CompSc.of Jl) (bT gl T.z_range (aa (ak aL ac (ak aN (ak aM (yqv 1 vl) ac) ac)) af)) (fun _=>(aK (i:=1) (show List.Nodup [(".0":Str),("_law_k":Str)] by decide +kernel) rfl ll (Or.inr Jl))) (fun _=>cq) (fun _=>ao)))))
     ay)
   (ai
    (aD (am aU (yqv 4 vl) ac (au _))
     (ai
      (ar (i:=8) sc_138.nd rfl ll (ak aL ac (ak aN (ak aM (yqv 1 vl) ac) ac)))
     (aj
      (av (ak aT (ak aT (yqv 0 vl) (bM (tns:=["_law_k"]) (cns:=["_law_name_here"]) (ci:=[7]) rfl (CompSc.of Jl) (bT gl T.z_range (aa (yqv 8 vl) af)) (fun _=>(aK (i:=1) (show List.Nodup [(".0":Str),("_law_k":Str),("_law_name_here":Str)] by decide +kernel) rfl ll (Or.inr Jl))) (fun _=>cq) (fun _=>(ak aC ao (yqv 2 vc))))) (bM (tns:=["_law_k"]) (cns:=[]) (ci:=[]) rfl (CompSc.of Jl) (bT gl T.z_range (aa (yqv 8 vl) af)) (fun _=>(aK (i:=1) (show List.Nodup [(".0":Str),("_law_k":Str)] by decide +kernel) rfl ll (Or.inr Jl))) (fun _=>cq) (fun _=>ao))))))
     ay)
   (ai
    (aD (am aU (yqv 4 vl) ac (au _))
     (aj
      (av (ak aT (ak aT (aV bu (yqv 0 vl) bj (aZ ac)) (bM (tns:=["_law_k"]) (cns:=[]) (ci:=[]) rfl (CompSc.of Jl) (bT gl T.z_range (aa (ak aN (ak aM (yqv 1 vl) ac) ac) af)) (fun _=>(aK (i:=1) (show List.Nodup [(".0":Str),("_law_k":Str)] by decide +kernel) rfl ll (Or.inr Jl))) (fun _=>cq) (fun _=>(ak aC ao (aw gG ao (yqv 1 vl)))))) (aV bu (yqv 0 vl) (aZ ac) bj))))
     ay)
   (ai
    (aD (am aU (yqv 4 vl) ac (au _))
     (aj
      (av (ak aT (ak aT (aV bu (yqv 0 vl) bj (aZ ac)) (bM (tns:=["_law_k"]) (cns:=[]) (ci:=[]) rfl (CompSc.of Jl) (bT gl T.z_range (aa (ak aN (ak aM (yqv 1 vl) ac) ac) af)) (fun _=>(aK (i:=1) (show List.Nodup [(".0":Str),("_law_k":Str)] by decide +kernel) rfl ll (Or.inr Jl))) (fun _=>cq) (fun _=>(ak aC ao (aw gG ao (yqv 1 vl)))))) (aV bu (yqv 0 vl) (aZ ac) bj))))
     ay)
   (ai
    (aD (am aU (yqv 4 vl) ac (au _))
     (aj
      (av (ak aT (aH (aa (aw aF (aH (bp Jp)) (ak aN (ak aM (yqv 1 vl) ac) ac)) af)) (aV bu (yqv 0 vl) (aZ ac) bj))))
     ay)
   (ai
    (aD (am aU (yqv 4 vl) ac (au _))
     (aj
      (av (ak aT (aV bu (yqv 0 vl) bj (aZ (yqv 5 vl))) (aV bu (yqv 0 vl) (aZ (ak aL (yqv 5 vl) ac)) bj))))
     ay)
   (ai
    (aD (am cy (yqv 4 vl) ac (au _))
     (aj
      (av (ak aT (ak aT (aV bu (yqv 0 vl) bj (aZ (yqv 5 vl))) (aH (aa (yqv 6 vl) af))) (aV bu (yqv 0 vl) (aZ (yqv 5 vl)) bj))))
     ay)
   (aj
    (av (ak aT (ak aT (aV bu (yqv 0 vl) bj (aZ (yqv 5 vl))) (aH (aa (yqv 6 vl) af))) (aV bu (yqv 0 vl) (aZ (ak aL (yqv 5 vl) ac)) bj)))))))))))))))),?_⟩
 rw [show start _ [V.ref L,V.int m,V.ref N,V.int wd]=[some (.ref L),some (.int m),some (.ref N),some (.int wd),none,none,none,none,none] from rfl];simp_arith! [];refine ap ?_;simp_arith! [];refine ⟨CDivB.small Jm Jm,zAD _ (.inl (SqL.of hL)) (by rw [zq2];omega) (ap ?_)⟩;rw [zq2];have a0:=cB (m / 10) (show ((L0.length:Int)+1)≠0 by omega);have a1:=d4 (m / 10) (show (0:Int)<(L0.length:Int)+1 by omega);obtain ⟨j,hj⟩:=i4 a0;rw [hj] at a1 ⊢;simp_arith! [zW];refine ⟨CDivB.small Jm Jm,?_⟩;refine zAF ns hN hW ln fun bd H1 s1 hbd=>ap ?_;simp_arith! [];intro px hpx;have sx:=Same.upd (o:=.lst [V.str (Str.ofString "x")]) hpx;refine zAC _ _ (sx _ _ (s1 _ _ hN)) ae (by rw [zq3];simp;omega) fun pn hpn=>?_;have s2:=(s1.trans sx).trans (Same.upd (o:=.lst (ns.map V.str++[V.str (Str.ofString "x")])) hpn);obtain ⟨n,hn,hn0⟩:∃n,J3.okX n/\atI (ns.map V.str++[V.str (Str.ofString "x")]) 0=some (.str n):=by
  cases ns with
  |nil=>exact zn ("x") (J3.eO Jk) rfl
  |cons n r=>exact zn n (J3.dO (hW.1 n (bV ..))) (bt (j:=0) rfl)
 refine zAA _ _ (SqL.of ae) hn0 (ap ?_);generalize upd (upd H1 px (.lst [V.str (Str.ofString "x")])) pn (.lst (ns.map V.str++[V.str (Str.ofString "x")]))=H2 at s2 ⊢;have hL2:=s2 _ _ hL;have q2:∀p L1 H',Same H2 H'->H' p=some (.lst (L1.map V.str))->OkLs L1->L1.length<=200->Q (.ref p) H':=fun p L1 H' s=>q p L1 H' (s2.trans s);clear q s1 sx hpx hpn s2 hn0 hL hN;simp_arith! [];have b24:=cB (m / 10) (show (24:Int)≠0 by decide);have c24:=d4 (m / 10) (show (0:Int)<24 by decide);have b3:=cB (m / 10) (show (3:Int)≠0 by decide);have c3:=d4 (m / 10) (show (0:Int)<3 by decide);have b10:=cB (m / 10) (show (10:Int)≠0 by decide);have c10:=d4 (m / 10) (show (0:Int)<10 by decide);have b6:=cB (m / 10) (show (6:Int)≠0 by decide);have c6:=d4 (m / 10) (show (0:Int)<6 by decide);have mv:∀(f:Nat->Str)(k:Nat),(List.range k).map (fun i=>V.str (f i))=((List.range k).map f).map V.str:=fun f k=>by rw [mf];rfl
 refine aO (fun h=>?_) (fun h=>ap ?_)
 ·refine zAG (CDivB.small Jm Jm) Jn Jn fun acc hacc bk=>?_;refine eV (n:=(17+m / 10 % 24).toNat) (fun _=>V.str (Str.ofString "tell 0")) (by rw [zq3];omega) hacc (fun i hi H' Q' _ h=>by rwa [];exact h) ?_;rw [mv fun _=>Str.ofString "tell 0"];have t1:=Same.upd (o:=.lst (((List.range (17+m / 10 % 24).toNat).map fun _=>Str.ofString "tell 0").map V.str)) hacc;refine zAC _ _ (t1 _ _ hL2) ae (by rw [zq3];simp;omega) (fun p hp=>q2 p (L0++(List.range (17+m / 10 % 24).toNat).map fun _=>Str.ofString "tell 0") _ (t1.trans (Same.upd hp)) (by rw [ae];simp only [List.map_append]) (hok.app (OkLs.rng fun _ _=>J3.aP [("tell":Str),("0":Str)] Jk Jk)) (by simp;omega))
 simp_arith! [];refine aO (fun h1=>⟨CDivB.small Jm Jm,ap ?_⟩) (fun h1=>ap ?_)
 ·simp_arith! [];refine zAB Jn Jn fun acc hacc bk=>?_;refine eV (n:=(7+m / 10 % 3).toNat) (fun _=>V.str (Str.ofString "if "++n)) (by rw [zq3];omega) hacc (fun i hi H' Q' _ h=>by rwa [];exact ⟨bQ Jk (by have:=hn.2.2.1;omega),h⟩) ?_;rw [mv fun _=>Str.ofString "if "++n];have t1:=Same.upd (o:=.lst (((List.range (7+m / 10 % 3).toNat).map fun _=>Str.ofString "if "++n).map V.str)) hacc;refine zAC _ _ (t1 _ _ hL2) ae (by rw [zq3];simp;omega) fun p hp=>?_;have t2:=t1.trans (Same.upd (o:=.lst (L0.map V.str++((List.range (7+m / 10 % 3).toNat).map fun _=>Str.ofString "if "++n).map V.str)) hp);refine zAB Jn Jn fun acc2 hacc2 bk2=>?_;refine eV (n:=(7+m / 10 % 3).toNat) (fun _=>V.str (Str.ofString "end")) (by rw [zq3];omega) hacc2 (fun i hi H' Q' _ h=>by rwa [];exact h) ?_;rw [mv fun _=>Str.ofString "end"];have t3:=Same.upd (o:=.lst (((List.range (7+m / 10 % 3).toNat).map fun _=>Str.ofString "end").map V.str)) hacc2;refine zAC _ _ (t3 _ _ ae) ae (by rw [zq3];simp;omega) (fun p3 hp3=>q2 p3 ((L0++(List.range (7+m / 10 % 3).toNat).map fun _=>Str.ofString "if "++n)++(List.range (7+m / 10 % 3).toNat).map fun _=>Str.ofString "end") _ ((t2.trans t3).trans (Same.upd hp3)) (by rw [ae,bI,bI]) ((hok.app (OkLs.rng fun _ _=>J3.dk "if" Jk Jk hn)).app (OkLs.rng fun _ _=>J3.aP [("end":Str)] Jk Jk)) (by simp;omega))
 simp_arith! [];refine aO (fun h2=>?_) (fun h2=>ap ?_)
 ·refine zn _ (SqL.of hL2) fun p hp=>?_;rw [show cL (L0.map V.str) none (some 1)=(L0.take 1).map V.str from qg (k:=1)];have t1:=Same.upd (o:=.lst ((L0.take 1).map V.str)) hp;refine zAG (CDivB.small Jm Jm) Jn Jn fun acc hacc bk=>?_;refine eV (n:=(m / 10 % 10).toNat) (fun i=>V.str (zzS "box zz" i)) (by rw [zq3];omega) hacc (fun i hi H' Q' _ h=>?_) ?_
  ·rwa [];exact ⟨by rw [zq3];decide +kernel,zAD _ (pN i Jn) (bQ Jk (by show (1:Nat)<=1000;decide)) h⟩
  rw [mv fun i=>zzS "box zz" i];have t2:=t1.trans (Same.upd (o:=.lst (((List.range (m / 10 % 10).toNat).map fun i=>zzS "box zz" i).map V.str)) hacc);refine zAC _ _ (Same.upd hacc _ _ ae) ae (by rw [zq3];simp;omega) fun p2 hp2=>?_;rw [<- bI];have t3:=t2.trans (Same.upd (o:=.lst ((L0.take 1++(List.range (m / 10 % 10).toNat).map fun i=>zzS "box zz" i).map V.str)) hp2);refine zn _ (SqL.of (t3 _ _ hL2)) fun p3 hp3=>?_;rw [show cL (L0.map V.str) (some 1) none=(L0.drop 1).map V.str from oi (k:=1)];have t4:=Same.upd (o:=.lst ((L0.drop 1).map V.str)) hp3;refine zAC _ _ (t4 _ _ ae) ae (by rw [zq3];simp;omega) (fun p4 hp4=>q2 p4 ((L0.take 1++(List.range (m / 10 % 10).toNat).map fun i=>zzS "box zz" i)++L0.drop 1) _ ((t3.trans t4).trans (Same.upd hp4)) (by rw [ae];simp only [List.map_append]) ((hok.take.app (OkLs.rng fun i hi=>J3.aP _ (tu i Jn).1 (tu i Jn).2)).app hok.drop) (by simp;omega))
 simp_arith! [];refine aO (fun h3=>?_) (fun h3=>ap ?_)
 ·refine zn _ (SqL.of hL2) fun p hp=>?_;rw [show cL (L0.map V.str) none (some 1)=(L0.take 1).map V.str from qg (k:=1)];have t1:=Same.upd (o:=.lst ((L0.take 1).map V.str)) hp;refine zAG (CDivB.small Jm Jm) Jn Jn fun acc hacc bk=>?_;refine eV (n:=(m / 10 % 6).toNat) (fun i=>V.str (zzS "in zz" i)) (by rw [zq3];omega) hacc (fun i hi H' Q' _ h=>?_) ?_
  ·rwa [];exact ⟨by rw [zq3];decide +kernel,zAD _ (pN i Jn) (bQ Jk (by show (1:Nat)<=1000;decide)) h⟩
  rw [mv fun i=>zzS "in zz" i];have t2:=t1.trans (Same.upd (o:=.lst (((List.range (m / 10 % 6).toNat).map fun i=>zzS "in zz" i).map V.str)) hacc);refine zAC _ _ (Same.upd hacc _ _ ae) ae (by rw [zq3];simp;omega) fun p2 hp2=>?_;rw [<- bI];have t3:=t2.trans (Same.upd (o:=.lst ((L0.take 1++(List.range (m / 10 % 6).toNat).map fun i=>zzS "in zz" i).map V.str)) hp2);refine zn _ (SqL.of (t3 _ _ hL2)) fun p3 hp3=>?_;rw [show cL (L0.map V.str) (some 1) none=(L0.drop 1).map V.str from oi (k:=1)];have t4:=Same.upd (o:=.lst ((L0.drop 1).map V.str)) hp3;refine zAC _ _ (t4 _ _ ae) ae (by rw [zq3];simp;omega) (fun p4 hp4=>q2 p4 ((L0.take 1++(List.range (m / 10 % 6).toNat).map fun i=>zzS "in zz" i)++L0.drop 1) _ ((t3.trans t4).trans (Same.upd hp4)) (by rw [ae];simp only [List.map_append]) ((hok.take.app (OkLs.rng fun i hi=>J3.aP _ (wG i Jn).1 (wG i Jn).2)).app hok.drop) (by simp;omega))
 simp_arith! [];refine aO (fun h4=>?_) (fun h4=>ap ?_)
 ·intro p hp;have t1:=Same.upd (o:=.lst (wL.map V.str)) hp;obtain ⟨v,hv,hpk⟩:=gU (L:=wL) (z:=m / 10) Jm;refine ⟨CDivB.small Jm Jm,zAA _ _ (SqL.of (show _=some (.lst (wL.map V.str)) from ae)) hpk fun p1 hp1=>?_⟩;have t2:=Same.upd (o:=.lst ([v].map V.str)) hp1;refine zn _ (SqL.of (t2 _ _ (t1 _ _ hL2))) fun p3 hp3=>?_;rw [show cL (L0.map V.str) (some 1) none=(L0.drop 1).map V.str from oi (k:=1)] at *;have t4:=Same.upd (o:=.lst ((L0.drop 1).map V.str)) hp3;refine zAC _ _ (t4 _ _ (show _=some (.lst ([v].map V.str)) from ae)) ae (by rw [zq3];simp;omega) (fun p4 hp4=>q2 p4 ([v]++L0.drop 1) _ (((t1.trans t2).trans t4).trans (Same.upd hp4)) (by rw [ae];simp only [List.map_append]) ((OkLs.one (AE v hv)).app hok.drop) (by simp;omega))
 simp_arith! [];refine aO (fun h5=>?_) (fun h5=>ap ?_)
 ·refine zn _ (SqL.of hL2) fun p hp=>?_;rw [qg];have t1:=Same.upd (o:=.lst ((L0.take j).map V.str)) hp;refine zn _ (SqL.of (t1 _ _ hL2)) fun p3 hp3=>?_;rw [show cL (L0.map V.str) (some ((j:Int)+1)) none=(L0.drop (j+1)).map V.str from oi (k:=j+1)];have t4:=Same.upd (o:=.lst ((L0.drop (j+1)).map V.str)) hp3;refine zAC _ _ (t4 _ _ ae) ae (by rw [zq3];simp;omega) (fun p4 hp4=>q2 p4 (L0.take j++L0.drop (j+1)) _ ((t1.trans t4).trans (Same.upd hp4)) (by rw [ae];simp only [List.map_append]) (hok.take.app hok.drop) (by simp;omega))
 simp_arith! [];refine aO (fun h6=>?_) (fun h6=>ap ?_)
 ·refine zn _ (SqL.of hL2) fun p hp p1 hp1=>?_;rw [qg] at hp1 ⊢;have t1:=Same.upd (o:=.lst ((L0.take j).map V.str)) hp;have t2:=Same.upd (o:=.lst ([bd].map V.str)) hp1;refine zAC _ _ (t2 _ _ ae) (show _=some (.lst ([bd].map V.str)) from ae) (by rw [zq3];simp;omega) fun p2 hp2=>?_;rw [<- bI];have t3:=(t1.trans t2).trans (Same.upd (o:=.lst ((L0.take j++[bd]).map V.str)) hp2);refine zn _ (SqL.of (t3 _ _ hL2)) fun p3 hp3=>?_;rw [oi] at *;have t4:=Same.upd (o:=.lst ((L0.drop j).map V.str)) hp3;refine zAC _ _ (t4 _ _ ae) ae (by rw [zq3];simp;omega) (fun p4 hp4=>q2 p4 ((L0.take j++[bd])++L0.drop j) _ ((t3.trans t4).trans (Same.upd hp4)) (by rw [ae];simp only [List.map_append]) ((hok.take.app (OkLs.one hbd)).app hok.drop) (by simp;omega))
 simp_arith! [];refine zn _ (SqL.of hL2) fun p hp p1 hp1=>?_;rw [qg] at hp1 ⊢;have t1:=Same.upd (o:=.lst ((L0.take j).map V.str)) hp;have t2:=Same.upd (o:=.lst ([bd].map V.str)) hp1;refine zAC _ _ (t2 _ _ ae) (show _=some (.lst ([bd].map V.str)) from ae) (by rw [zq3];simp;omega) fun p2 hp2=>?_;rw [<- bI];have t3:=(t1.trans t2).trans (Same.upd (o:=.lst ((L0.take j++[bd]).map V.str)) hp2);refine zn _ (SqL.of (t3 _ _ hL2)) fun p3 hp3=>?_;rw [show cL (L0.map V.str) (some ((j:Int)+1)) none=(L0.drop (j+1)).map V.str from oi (k:=j+1)] at *;have t4:=Same.upd (o:=.lst ((L0.drop (j+1)).map V.str)) hp3;refine zAC _ _ (t4 _ _ ae) ae (by rw [zq3];simp;omega) (fun p4 hp4=>q2 p4 ((L0.take j++[bd])++L0.drop (j+1)) _ ((t3.trans t4).trans (Same.upd hp4)) (by rw [ae];simp only [List.map_append]) ((hok.take.app (OkLs.one hbd)).app hok.drop) (by simp;omega))
def pT(K:W.Frag)(L:Addr)(H:Hp)(Q:VK):Prop:=∃(L0:List Str),H L=some (.lst (L0.map V.str))/\OkLs L0/\L0.length<=200/\∀H',Same H H'->Q (.bl true) H'
def rP(K:W.Frag):Sp:=fun vs H Q _=>∃(L:Addr),vs=[.ref L]/\pT K L H Q
theorem kj{K:W.Frag}{L:Addr}{H:Hp}{Q:VK}{E:XK}:rP K [.ref L] H Q E=pT K L H Q:=propext ⟨by rintro ⟨_,e,q⟩;cases e;exact q,fun q=>zn _ rfl q⟩
theorem xi(T:Txt K mg t):FnOk P w K mg base CX0 45 t.f_140 t.e_140 ["_law_lines_here"] (rP K):=by
 have G_104:=@um P w K mg base t T;have G_136:=@ul P w K mg base t T;have G_139:=@qM P w K mg base t T 9;refine T.d_140.F.ok sc_140 ∅ ?_;rintro cdv A outer s H vs Q E hr ⟨L,rfl,L0,hL,hO,hl,q⟩;obtain ⟨tss,rfl,hok⟩:=J3.pO hO;rw [zq2] at hl;refine ⟨_,
   (XSs.h
   (ai
    (ar (i:=1) sc_140.nd rfl ll jt)
   (ai
    (ar (i:=2) sc_140.nd rfl ll jt)
   (ai
    (ar (i:=3) sc_140.nd rfl ll (aQ cK gl T.z_list boot_list (aa (yqv 0 vl) af)))
   (ai
    (sy (i:=1) (j:=2) (l:=4) T.d_104 G_104 hr.m (aa (yqv 3 vl) af) gl sc_140.nd rfl ll rfl ll rfl rfl gl T.x_NoProgram)
   (ai
    (aD (am (lK (n:=0) (g9 Jm hr)) (yqv 3 vl) (yqv 0 vl) (au _))
     (aj
      (av d7))
     ay)
   (ai
    (ar (i:=5) sc_140.nd rfl ll (aB T.d_136 G_136 hr.m (aa (yqv 0 vl) af) gl))
   (ai
    (aD (am md (yqv 5 vl) ac (au _))
     (aj
      (av (fu (cE xq (yqv 2 vl) jt (au _)) (fu (ax nW gl T.z_isinstance boot_isinstance (aa (yqv 1 vl) (aa (bU (v:=.ref t.C_Program) gl T.c_Program.M rfl) af))) (fv (cE aU (aB T.d_139 G_139 hr.m (aa (c9 (yqv 1 vl) rfl) af) gl) (yqv 5 vl) (au _)))))))
     ay)
   (aj
    (av (fu (ax nX gl T.z_isinstance boot_isinstance (aa (yqv 2 vl) (aa (bU (v:=.ref t.X_LoomError) gl T.x_LoomError rfl) af))) (fv (ax kR gl T.z_isinstance boot_isinstance (aa (yqv 2 vl) (aa (sC (v:=.ty "ValueError") gl T.z_ValueError g7 rfl) af))))))))))))))),?_⟩
 rw [show start _ [V.ref L]=[some (.ref L),none,none,none,none,none] from rfl];simp_arith! [];refine ap ?_;simp_arith! [];refine ap ?_;simp_arith! [];refine zn _ (.inl (SqL.of hL)) fun hd hhd=>ap ?_;have s1:=Same.upd (o:=.lst ((tss.map jn).map V.str)) hhd;have hH:upd H hd (.lst ((tss.map jn).map V.str)) hd=some (.lst ((tss.map jn).map V.str)):=ae;generalize upd H hd (.lst ((tss.map jn).map V.str))=H1 at s1 hH ⊢;have hL1:=s1 _ _ hL;simp_arith! [yt];refine zBC tss hH hok hl (fun n p wd ins oth ss a b r xs f H2 est s2 hp hP hm hd8 h40=>ap ?_) fun est H2 s2=>⟨T.m_NoProgram_NoProgram,fun ea hea=>ap ?_⟩
 ·simp_arith! [jo];refine zn _ (ef (K:=K) (n:=0) (SqL.of (s2 _ _ hH)) (SqL.of (s2 _ _ hL1))) (zn _ rfl ?_);rw [zq5 rfl,zq0 Jm];refine ap ?_;simp_arith! [jo];refine zAF tss (s2 _ _ hL1) hok hl fun H3 s3=>ap ?_;rw [est];have hP3:=hP.same s3;simp_arith! [dA];rw [zq1 (by show decide (0<=((n:Nat):Int))=true;simp),zq1 Jm];obtain ⟨dx,hob⟩:=hP3.ob;refine zAN _ _ _ _ (zAB rfl hob (zn _ rfl ?_));rw [zq1 rfl];refine g8 hob T.c_Program.cl T.n_Program_rows rfl ?_;rw [dA];refine zAM xs ss f hP3.rs hP3.st Jn fun H4 s4=>?_;have y:=q H4 (((s1.trans s2).trans s3).trans s4);refine ⟨rfl,?_⟩;rw [hm,show decide (V.int ((n:Nat):Int)=V.int (ans (some n)))=true from zq5 rfl];exact y
 ·simp_arith! [jo];have s3:=s2.trans (Same.upd (o:=eL ea (.ref t.X_NoProgram)) hea);refine zn _ (ef (K:=K) (n:=0) (SqL.of (s3 _ _ hH)) (SqL.of (s3 _ _ hL1))) (zn _ rfl ?_);rw [zq5 rfl,zq0 Jm];refine ap ?_;simp_arith! [jo];refine zAF tss (s3 _ _ hL1) hok hl fun H4 s4=>ap ?_;rw [est];have hex:H4 ea=some (eL ea (.ref t.X_NoProgram)):=s4 _ _ ae;simp_arith! [];rw [zq0 Jm];refine ap ?_;simp_arith! [];refine zAC t.X_NoProgram true hex T.i_NoProgram T.i_NoProgram_LoomError ?_;rw [zq1 rfl];exact zAC t.X_NoProgram true hex T.i_NoProgram T.i_NoProgram_ValueError (q H4 ((s1.trans s3).trans s4))
theorem xl(T:Txt K mg t):FnOk P w K mg base CX0 46 t.f_141 t.e_141 ["_law_script"] (sp_law K):=by
 have G_122:=@gQ P w K mg base t T;have G_123:=@qT P w K mg base t T;have G_128:=@lH P w K mg base t T;have G_130:=@qR P w K mg base t T;have G_129:=@iD P w K mg base t T 9;have G_138:=@xo P w K mg base t T;have G_140:=@xi P w K mg base t T;refine T.d_141.F.ok sc_141 ∅ ?_;rintro cdv A outer s H vs Q E hr ⟨a,ns,rfl,hS,hlen,hbits,q⟩;have hu:=zr hr;refine ⟨_,
   (XSs.h
   (ai
    (ar (i:=1) sc_141.nd rfl ll (aV bu (yqv 0 vl) (aZ ac) (aZ ac)))
   (ai
    (ar (i:=2) sc_141.nd rfl ll ac)
   (bh
    (aD (am bG (ax aq gl T.z_len PySem.boot_len (aa (yqv 0 vl) af)) ac (au _))
     (aj
      (ar (i:=2) sc_141.nd rfl ll (aw aF (yqv 0 vl) ac)))
     ay)
   (ai
    (ar (i:=3) sc_141.nd rfl ll (ak aL ac (ak aN (yqv 2 vl) ac)))
   (ai
    (ar (i:=4) sc_141.nd rfl ll (aV bu (aB T.d_123 G_123 hr.m (aa (yqv 2 vl) af) gl) bj (aZ (ak aN (ak aM (yqv 2 vl) ac) ac))))
   (ai
    (ar (i:=5) sc_141.nd rfl ll (aV bu (aB T.d_123 G_123 hr.m (aa (yqv 2 vl) af) gl) (aZ ac) (aZ (ak aL ac (ak aN (ak aM (yqv 2 vl) ac) ac)))))
   (ai
    (ar (i:=6) sc_141.nd rfl ll (aB T.d_128 G_128 hr.m (aa (yqv 1 vl) (aa (ak aT (yqv 4 vl) (yqv 5 vl)) (aa (yqv 3 vl) (aa ac af)))) gl))
   (ai
    (ar (i:=7) sc_141.nd rfl ll (ak aT (aB T.d_130 G_130 hr.m (aa (yqv 3 vl) (aa (yqv 4 vl) (aa (yqv 5 vl) af))) gl) (aB T.d_129 G_129 hr.m (aa (yqv 6 vl) af) gl)))
   (bh
    (cc PassesOwn.never rfl (kH T.z_enumerate (aa (ak aT (aH (aa (yqv 2 vl) af)) (aV bu (yqv 1 vl) bj (aZ ac))) af) gl) (gr rfl (bz (aK (i:=8) sc_141.nd rfl ll) (bz (aK (i:=9) sc_141.nd rfl ll) fw)))
     (aj
      (aD (ce (cO (aB T.d_140 G_140 hr.m (aa (aB T.d_138 G_138 hr.m (aa (yqv 7 vl) (aa (aB T.d_122 G_122 hr.m (aa (yqv 9 vl) (aa (ak aL ac (yqv 8 vl)) af)) gl) (aa (ak aT (yqv 4 vl) (yqv 5 vl)) (aa (yqv 3 vl) af)))) gl) af) gl)))
       (aj
        (av d7))
       ay)))
   (aj
    (av (fu (aB T.d_140 G_140 hr.m (aa (yqv 7 vl) af) gl) (fv (aB T.d_140 G_140 hr.m (aa (aH af) af) gl))))))))))))))),?_⟩
 rw [show start _ [V.ref a]=some (.ref a)::List.replicate 9 none from rfl];simp_arith! [List.replicate_succ,List.replicate_zero];have hcut:cL (ns.map V.int) (some 1) (some 41)=((ns.take 41).drop 1).map V.int:=by rw [jO Jm Jm,pH,tq];rfl
 refine zn _ hS fun pc hpc=>?_;rw [hcut];have hm2:∀z∈(ns.take 41).drop 1,Builtin.Int.intBits z<=2 ^ 20:=fun z hz=>hbits z (tj (tf hz));have hl2:((ns.take 41).drop 1).length<=63:=by rw [jy,gh];omega
 generalize (ns.take 41).drop 1=cs at hm2 hl2 ⊢;have s1:=Same.upd (o:=.lst (cs.map V.int)) hpc;refine ap ?_;simp_arith! [];refine ap ?_;simp_arith! [];refine ⟨fun σ H'=>H'=upd H pc (.lst (cs.map V.int))/\∃c0:Int,Builtin.Int.intBits c0<=2 ^ 20/\σ=[some (.ref a),some (.ref pc),some (.int c0),none,none,none,none,none,none,none],?_,?_⟩
 ·refine zn _ (.inl (s1.seq hS)) (aO (fun h=>?_) (fun h=>?_))
  ·rw [zq2] at h;have h0:(ns.map V.int)[0]?=some (.int ns[0]):=by rw [cA,dI Jn];rfl
   exact zAC _ _ (s1.seq hS) (bt h0) rfl (zn (ns[0]) (hbits _ (pG _)) rfl)
  ·exact ⟨rfl,zn 3 Jm rfl⟩
 rintro σ H1 ⟨rfl,c0,hb0,rfl⟩;have hcs:upd H pc (.lst (cs.map V.int)) pc=some (.lst (cs.map V.int)):=ae;generalize upd H pc (.lst (cs.map V.int))=H1 at s1 hcs ⊢;refine ap ?_;simp_arith! [];have w0:0<=c0 % 8:=cB _ Jm;have w7:c0 % 8<8:=d4 _ Jm;have k0:0<=c0 / 8 % 5:=cB _ Jm;have k4:c0 / 8 % 5<5:=d4 _ Jm;have j0:0<=c0 / 40 % 5:=cB _ Jm;have j4:c0 / 40 % 5<5:=d4 _ Jm;obtain ⟨hl8,hnd8,hnm8⟩:=lA c0;refine ap ?_;simp_arith! [nz];refine ⟨hb0,fun p2 H2 s2 hp2 hn2=>⟨CDivB.small Jm Jm,zn _ (SqL.of hn2) fun pi hpi=>?_⟩⟩;rw [j3 k0,<- tq];refine ap ?_;simp_arith! [nz];refine ⟨hb0,fun p3 H3 s3 hp3 hn3=>⟨CDivB.small Jm Jm,zn _ (SqL.of hn3) fun po hpo=>?_⟩⟩;have si:=Same.upd (o:=.lst (((bw c0).take (c0 / 8 % 5).toNat).map V.str)) hpi;have hi3:H3 pi=some (.lst (((bw c0).take (c0 / 8 % 5).toNat).map V.str)):=s3 _ _ ae;have hcutO:cL ((bw c0).map V.str) (some 4) (some (4+c0 / 40 % 5))=(((bw c0).take (4+c0 / 40 % 5).toNat).drop 4).map V.str:=by rw [jO Jm Jn,pH,tq];rfl
 rw [hcutO];have so:=Same.upd (o:=.lst ((((bw c0).take (4+c0 / 40 % 5).toNat).drop 4).map V.str)) hpo;have li:((bw c0).take (c0 / 8 % 5).toNat).length<=4:=by rw [gh];omega
 have lo:(((bw c0).take (4+c0 / 40 % 5).toNat).drop 4).length<=4:=by rw [jy,gh];omega
 have hnd:((bw c0).take (c0 / 8 % 5).toNat++((bw c0).take (4+c0 / 40 % 5).toNat).drop 4).Nodup:=by
  have z:((bw c0).take 4++(bw c0).drop 4).Nodup:=by rw [wF];exact hnd8
  refine z.sublist (List.Sublist.append ?_ ?_)
  ·exact List.take_sublist_take_left Jn
  ·exact (List.take_sublist _ _).drop 4
 have hnm:∀n∈(bw c0).take (c0 / 8 % 5).toNat++((bw c0).take (4+c0 / 40 % 5).toNat).drop 4,aX n=true:=fun n hn=>by
  rcases zq10.mp hn with z | z
  ·exact hnm8 n (tj z)
  ·exact hnm8 n (tj (tf z))
 generalize (bw c0).take (c0 / 8 % 5).toNat=ins at *;generalize ((bw c0).take (4+c0 / 40 % 5).toNat).drop 4=oth at *;obtain ⟨wd,hwd⟩:∃wd,wd=1+c0 % 8:=⟨_,rfl⟩
 rw [<- hwd];have w1:1<=wd:=by omega
 have w8:wd<=8:=by omega
 have hN:NW (ins++oth) wd:=zAB hnm Jn w8
 have ho4:upd H3 po (.lst (oth.map V.str)) po=some (.lst (oth.map V.str)):=ae;have hi4:upd H3 po (.lst (oth.map V.str)) pi=some (.lst (ins.map V.str)):=so _ _ hi3;have s4:Same H (upd H3 po (.lst (oth.map V.str))):=(((s1.trans s2).trans si).trans s3).trans so;have hc4:upd H3 po (.lst (oth.map V.str)) pc=some (.lst (cs.map V.int)):=so _ _ (s3 _ _ (si _ _ (s2 _ _ hcs)));refine ap ?_;generalize upd H3 po (.lst (oth.map V.str))=H4 at s4 hc4 hi4 ho4 ⊢;clear so si s3 hi3 hn3 hp3 s2 hpi hpo hn2 hp2 hcut hcutO hl8 hcs s1 hnd8 hnm8 hnm;simp_arith! [oR];refine zAC _ _ hi4 ho4 (by rw [zq2,zq2,zq3];omega) fun pb hpb=>?_;have sb:=Same.upd (o:=.lst (ins.map V.str++oth.map V.str)) hpb;refine zAJ cs (ins++oth) (zAV (SqL.of (sb _ _ hc4)) Jn hm2 (SqL.of (by rw [ae,bI])) Jn Jn fun pr xs f H5 s5 hr5 hst5 _ _=>?_);have s45:=sb.trans s5;have hi5:=s45 _ _ hi4;have ho5:=s45 _ _ ho4;have hc5:=s45 _ _ hc4;have hg5:=lP (cs:=cs) (ns:=ins++oth) (w:=wd) (most:=24) Jm;generalize eG cs (ins++oth) wd 24=ss at hg5 hst5;obtain ⟨hgd,hdp,hmn⟩:=hg5;refine ap ?_;clear s45 s5 sb hc4 hi4 ho4 hpb s4;simp_arith! [uK,bL];refine zBD ins oth hi5 ho5 Jn Jn hN fun ph HE sE hph heh=>?_;refine zBI xs ss f (ins++oth) wd (sE _ _ hr5) (hst5.same sE) Jn Jn hN hgd fun pq HF sF hpq heq=>?_;have lh:((hT wd ins oth).map jn).length<=10:=by unfold hT;rw [zq2,cF,cf,zq2,zq2];omega
 have lln:(ln false ss).length<=72:=by have:=gL (al:=false) (ss:=ss);omega
 refine tQ (sF _ _ heh) heq (by rw [zq2 (f:=V.str),zq2 (f:=V.str)];omega) fun pd hpd=>ap ?_;have sG:=(sE.trans sF).trans (Same.upd (o:=.lst (((hT wd ins oth).map jn).map V.str++(ln false ss).map V.str)) hpd);have hd0:upd HF pd (.lst (((hT wd ins oth).map jn).map V.str++(ln false ss).map V.str)) pd=some (.lst (((hT wd ins oth).map jn++ln false ss).map V.str)):=by rw [ae,bI]
 generalize upd HF pd (.lst (((hT wd ins oth).map jn).map V.str++(ln false ss).map V.str))=HG at sG hd0 ⊢;have hi:=sG _ _ hi5;have ho:=sG _ _ ho5;have hc:=sG _ _ hc5;have hLs:OkLs ((hT wd ins oth).map jn++ln false ss):=by
  refine OkLs.app (fun x hx=>?_) (fun x hx=>?_)
  ·obtain ⟨ts,ht,rfl⟩:=zq37.mp hx;exact zn ts rfl (J3.wY hN ts ht)
  ·unfold ln at hx;obtain ⟨ts,ht,rfl⟩:=zq37.mp hx;exact zn ts rfl (J3.xf hN hgd ts ht)
 have lL0:((hT wd ins oth).map jn++ln false ss).length<=120:=by rw [cf];omega
 generalize (hT wd ins oth).map jn++ln false ss=L0 at hd0 hLs lL0;clear sG sF sE heh heq hpd hph hpq hi5 ho5 hc5 hr5 hst5 lh lln;simp_arith! [dq,rK,kj];refine ⟨fun σ H'=>Same HG H'/\∃o8 o9,σ=[some (.ref a),some (.ref pc),some (.int c0),some (.int wd),some (.ref pi),some (.ref po),some (.ref pr),some (.ref pd),o8,o9],?_,?_⟩
 ·intro p hp;have t1:=Same.upd (o:=.lst [V.int c0]) hp;refine zn _ (SqL.of (t1 _ _ hc)) fun p1 hp1=>?_;have e9:cL (cs.map V.int) none (some 9)=(cs.take 9).map V.int:=by rw [j3 Jm,tq];rfl
  rw [e9] at *;have t2:=Same.upd (o:=.lst ((cs.take 9).map V.int)) hp1;refine zAC _ _ (t2 _ _ ae) ae (by rw [zq3];simp;omega) fun p2 hp2=>?_;have t3:=(t1.trans t2).trans (Same.upd (o:=.lst ([V.int c0]++(cs.take 9).map V.int)) hp2);have e3:upd (upd (upd HG p (.lst [V.int c0])) p1 (.lst ((cs.take 9).map V.int))) p2 (.lst ([V.int c0]++(cs.take 9).map V.int)) p2=some (.lst ((c0::cs.take 9).map V.int)):=ae;generalize upd (upd (upd HG p (.lst [V.int c0])) p1 (.lst ((cs.take 9).map V.int))) p2 (.lst ([V.int c0]++(cs.take 9).map V.int))=HH at t3 e3 ⊢;have hbz:∀z∈c0::cs.take 9,Builtin.Int.intBits z<=2 ^ 20:=fun z hz=>by
   rcases zq4.mp hz with y | y
   ·rw [y];exact hb0
   ·exact hm2 z (tj y)
  have hlz:(c0::cs.take 9).length<=10:=by rw [cF,gh];omega
  generalize c0::cs.take 9=zs at e3 hbz hlz;refine ⟨⟨_,SqL.of e3⟩,mP (xs:=zs.map V.int) (fun i σ H'=>Same HH H'/\∃o8 o9,σ=[some (.ref a),some (.ref pc),some (.int c0),some (.int wd),some (.ref pi),some (.ref po),some (.ref pr),some (.ref pd),o8,o9]) ⟨Same.refl _,zAJ _ _ rfl⟩ ?_ ?_ ?_⟩
  ·rintro i σ H' _ ⟨sm,_⟩;exact SqL.of (sm _ _ e3)
  ·rintro i x σ H1 pe hxi hpe ⟨sm,o8,o9,rfl⟩;rw [cA] at hxi;obtain ⟨z,hz,rfl⟩:=zq46.mp hxi;have hi10:i<zs.length:=(zq17.mp hz).1;have hbi:=hbz z (dr hz);have te:=Same.upd (o:=.tup [V.int (i:Int),V.int z]) hpe;simp_arith! [dq,rK,kj];refine zAD _ (SqT.of ae) rfl ?_;simp_arith! [dq,rK,kj];have tm:=(t3.trans sm).trans te;refine zAG hbi Jn Jn (zAC _ _ (tm _ _ hi) (tm _ _ ho) (by rw [zq2,zq2,zq3];omega) fun pb hpb=>?_);have tb:=Same.upd (o:=.lst (ins.map V.str++oth.map V.str)) hpb;refine zAJ L0 (ins++oth) (zAV (tb _ _ (tm _ _ hd0)) hLs lL0 (by rw [ae,bI]) hN (by rw [cf];omega) fun p5 L1 H5 s5 e5 k5 l5=>?_);simp only [kj];refine zAF L1 e5 k5 l5 fun H6 s6=>zn _ rfl ?_;rw [zq0 Jm];exact ⟨((sm.trans te).trans tb).trans (s5.trans s6),zAJ _ _ rfl⟩
  ·rintro σ H' ⟨sm,o8,o9,rfl⟩;exact ⟨t3.trans sm,zAJ _ _ rfl⟩
 rintro σ HH ⟨sH,o8,o9,rfl⟩;refine ap ?_;simp_arith! [kj];refine zAF L0 (sH _ _ hd0) hLs Jn fun HI sI=>?_;refine zn _ rfl ?_;rw [zq1 rfl];intro pz hpz;exact zAF ([]) ae (fun x hx=>(by cases hx)) Jo fun HJ _=>q HJ
theorem oA(T:Txt K mg t):∀(s:Shared)(u:Value),BindsTo s t.e_141 ⟨[u],[]⟩ [("_law_script",u)]:=by obtain ⟨oc,od,kV,doc,pm,an,cdv,ct,osl,e,_,_⟩:=T.d_141.F.ex;intro s u;rw [e];exact .of_eq rfl
end
theorem Bi{l:W.OpenLaw}{q:Program}{loose:List Str}{XP:(Str->Option Value)->Heap->Prop}{YP:World->Heap->Prop}{d:DefRec}{K:Params->W.Frag}(hn:l.most=some 63)(hdf:d.params.defaults=[])(hd:d.name="law")
  (hY:∀(w:World)(h:Heap),YP w h->(K w.params).In h)
  (F:∀(w:World)(mg:Str->Option Value)(h:Heap),(K w.params).In h->h.Ns mainGlobals mg->∃t,Txt (K w.params) mg t) :
  W.WalkO q loose XP YP l.row.toRowW d [] (fun f vs=>PySem.call f vs):=by
 refine L2.su (n:=63) (k:=100) (x:="_law_script") (CX:=fun _=>CX0) (sp:=fun w=>sp_law (K w.params)) hn Jm hdf ⟨rfl,Jm,Jm,rfl⟩ hY (fun w mg fa h KX G hmg=>?_) (fun _ _ a ns hl hb _ hS=>zAK a ns rfl hS hl hb fun _=>rfl) fun _ _ _ _ _ z=>z;obtain ⟨t,T⟩:=F w mg h KX G;rw [hd] at hmg;have e0:=hmg.symm.trans T.d_141.M
 cases e0
 exact zn t.e_141 (oA T) (fun base _ _=>(xl T).mono Jm)
end K03
set_option maxHeartbeats 4000000
local macro_rules | `(tactic| simp_arith [$ts,*])=>`(tactic| ((try dsimp only); k_is))
local macro_rules | `(∅)=>`(by simp_arith [])
namespace PySem.W.Fast
def tw13658836891665294337:=0
def tw6805806631192394183:=0
def tw13499031407649443708:=0
def tw4532295097781509203:=0
def tw17014499261733303901:=0
def tw16487412154516187077:=0
def tw9375249294634829613:=0
def tw16235306047015345739:=0
def tw3179390649785113276:=0
def tw7072446799372226118:=0
def tw6592192488255986475:=0
def tw5305853822805823332:=0
def tw6618913391025666137:=0
def tw1360952655997639893:=0
def tw16992722931481015936:=0
def tw12189257508526576059:=0
def tw10936568206316079736:=0
def tw3800223360248219756:=0
def tw5506286609791545348:=0
def tw737787104607784983:=0
def tw807991219929134367:=0
def tw12447967791467001157:=0
def tw9714595338332709053:=0
def tw11736575910386601597:=0
def tw13041047175932062437:=0
def tw4980622360898776032:=0
def tw16781963630164442934:=0
def tw466293927834148082:=0
def tw18174352560726898981:=0
def tw632646922893322356:=0
def tw8754088405060223033:=0
def tw7225009935945957057:=0
def tw9373927816544590740:=0
def tw9173703528019661344:=0
def tw8476638656914871331:=0
def tw263341520407896898:=0
def tw4966773863846977569:=0
def tw8073839801191335730:=0
def tw9994745350681729104:=0
def tw5480878233945244281:=0
def tw13521297832087096088:=0
def tw6460308663754186949:=0
def tw17914366687463437490:=0
def tw8646654061526587151:=0
def tw1407042749512295941:=0
def tw11684850040281653213:=0
def tw6681978148306814052:=0
def tw13920176914757405127:=0
def tw15720422626580207546:=0
def tw5165988217761837841:=0
def tw683413433611458904:=0
def tw8262150646949375279:=0
def tw15047348666212650138:=0
def tw7549358975857951583:=0
def tw12956139803380061129:=0
def tw5050245227752731571:=0
def tw8915700653756549862:=0
def tw6472527957050434866:=0
def tw9362772297634913001:=0
def tw8003599661019954873:=0
def tw6648207474001419155:=0
def tw9393686268413488217:=0
def tw4065072290273999349:=0
def tw6737985726922698800:=0
def tw2356107489700514940:=0
def tw940843948257272205:=0
def tw11809365821213808612:=0
def tw789862681860611570:=0
def tw12435636058927782804:=0
def tw3020023336674360667:=0
def tw5681060023292428654:=0
def tw5177799258821071522:=0
def tw7058467283837977362:=0
def tw11967451626910777539:=0
def tw1703493456359610992:=0
def tw11405427953426524441:=0
def tw4637286823555117645:=0
def tw4954388776393617341:=0
def tw3877639463805066849:=0
def tw17836675654936807384:=0
def tw9833762656231376202:=0
def tw12711781940644834415:=0
def tw12645934826612268045:=0
def tw7662472701006420425:=0
def tw9562242888938900595:=0
def tw17055049545927636941:=0
def tw2866799673300155314:=0
def tw2552957049722823660:=0
def tw6010045202964876919:=0
def tw141790696450048602:=0
def tw6782406458417328863:=0
def tw11554331397085801188:=0
def tw13185962091224688517:=0
def tw8799190169780057939:=0
def tw7980093442838141710:=0
def tw14861503796135604951:=0
def tw4008172341855747569:=0
def tw6257428973228467081:=0
def tw16749509416996798685:=0
def tw12392323493725281087:=0
def tw3363163738626137634:=0
def tw1180897145865339345:=0
def tw12035984512309820631:=0
def tw16383547096216449484:=0
def tw1977760997286810773:=0
def tw8822330205234532138:=0
def tw3122036470624675416:=0
def tw14030278499514838130:=0
def tw3269490125661358628:=0
def tw8652609804151987937:=0
def tw1963794447524185048:=0
def tw9100603161520116660:=0
def tw1969744355355335436:=0
def tw7438265692661033046:=0
def tw15318078223993574681:=0
def tw15637240918632251780:=0
def tw8152478907051497247:=0
def tw9482367738032356397:=0
def tw3532314660534194372:=0
def tw6335255128843573810:=0
def tw11872984585944393108:=0
def tw12008626079533546130:=0
def tw9548703626350148162:=0
def tw4839354472130721074:=0
def tw7678364150475981350:=0
def tw12966572292511009893:=0
def tw1181540690441809557:=0
def tw10603965186360497117:=0
def tw553344752223393169:=0
def tw4718890883321637832:=0
def tw3901175302376767688:=0
def tw6294738673094246968:=0
def tw8321211235090677254:=0
def tw8127326754759359599:=0
def tw218403207562721421:=0
def tw5503951065365754140:=0
def tw7731759079921542107:=0
def tw6754770009261560388:=0
def tw3850593782080620918:=0
def tw8562433225828364605:=0
def tw13060353706922360811:=0
def tw8958228733256093058:=0
def tw17905146361944221205:=0
def tw17409885504686818072:=0
def tw3355398219444474879:=0
def tw17999850283524878743:=0
def tw11557423374970217641:=0
def tw7555151557462214612:=0
def tw4983037354474199505:=0
def tw3882901015224590773:=0
def tw18151232750048188357:=0
def tw1603130804992568237:=0
def tw13047277761885742057:=0
def tw11798359427584135410:=0
def tw10537911002836401004:=0
def tw3486963961988963908:=0
def tw12621703566647036977:=0
def tw8626913107614238022:=0
def tw3973573260862413882:=0
def tw2630440538033437246:=0
def tw17158185108994558814:=0
def tw3139244744490720946:=0
def tw7025541996702709270:=0
def tw5539637975357264984:=0
def tw7069391661715323724:=0
def tw18024992996430643719:=0
def tw13663588127225381781:=0
def tw6327220987024695998:=0
def tw11089453461274950061:=0
def tw2239465055725434702:=0
def tw16757824906720349637:=0
def tw12402737515243330349:=0
def tw12034990468935413386:=0
def tw5981563384840712580:=0
def tw2352490013306463344:=0
def tw2916194664084140307:=0
def tw8691967524268767025:=0
def tw11453689080562430468:=0
def tw9510718019148256474:=0
def tw1871236268552875742:=0
def tw1788594696480681742:=0
def tw7540022179757371006:=0
def tw4560203635460909694:=0
def tw11592061693966853204:=0
def tw15488011458428739778:=0
def tw4590794753918559198:=0
def tw2327598256314829622:=0
def tw14738072054490292464:=0
def tw16218261101878727116:=0
def tw9475845328574757147:=0
def tw15065715542957506893:=0
def tw17444023772770572490:=0
def tw13477189669342279382:=0
def tw9594196164259676921:=0
def tw11745778956140040521:=0
def tw15673000719308816367:=0
def tw10809986160909117847:=0
def tw9837249134463921999:=0
def tw6105710101733999598:=0
def tw2099119475390162634:=0
def tw12831000301719717036:=0
def tw15849743339829172020:=0
def tw14821270813844812483:=0
def tw6179576240727663634:=0
def tw13729399381635686481:=0
def tw16883325684514054688:=0
def tw3525553527025937414:=0
def tw6132266387360206990:=0
def tw18023319151162856085:=0
def tw14724398530348325228:=0
def tw6412904519244057912:=0
def tw13794379608167212664:=0
def tw13171758923845608897:=0
def tw2705762550583398954:=0
def tw6091433162159090065:=0
def tw11102571228413489665:=0
def tw2502872986848017227:=0
def tw16154636686158695768:=0
def tw15171133898213967637:=0
def tw1213975690299873231:=0
def tw17341230050028121589:=0
def tw9170986263192225423:=0
def tw7745112861902470983:=0
def tw6681852132263087535:=0
def tw2142707837717447847:=0
def tw15887727763976599196:=0
def tw3216537662657500033:=0
def tw1553981296474692003:=0
def tw15522999665880380389:=0
def tw14808397183830531739:=0
def tw5173255671306247865:=0
def tw14670035357773103309:=0
def tw9966517253068350319:=0
def tw7232175228614401315:=0
def tw4843919264285546919:=0
def tw1821687559021706348:=0
def tw969006766326933938:=0
def tw9575529263058560702:=0
def tw9539797538702753762:=0
def tw9507422575182276301:=0
def tw9462266841625331327:=0
def tw9421908825614193630:=0
def tw9344931074723233650:=0
def tw923073562394842518:=0
def tw9209019182654386218:=0
def tw8867134619253111626:=0
def tw883276887244317306:=0
def tw8319866060933234808:=0
def tw8293773819036359507:=0
def tw8239691412341615969:=0
def tw8055558385611863516:=0
def tw7905570648589860861:=0
def tw745292826386524684:=0
def tw7326637716879777003:=0
def tw7060604234428393787:=0
def tw696787367951686034:=0
def tw6312692127830546469:=0
def tw6238502042513562997:=0
def tw6152922456820591996:=0
def tw5652011165369376897:=0
def tw5577019293832451901:=0
def tw557670759094388657:=0
def tw5264960911808168582:=0
def tw5061580152568913187:=0
def tw5019723163090479636:=0
def tw4480065358619710238:=0
def tw4412340639449142063:=0
def tw4403091724862995185:=0
def tw4208208642528136841:=0
def tw404383419889495453:=0
def tw3857329535616504458:=0
def tw3384775946612022523:=0
def tw3189243529362067874:=0
def tw273337092867028236:=0
def tw2479011866966718890:=0
def tw243991408301823078:=0
def tw2174326322615720337:=0
def tw1965779244415355534:=0
def tw18423976293102464806:=0
def tw18050719752394960379:=0
def tw17609553457068781047:=0
def tw16870876601918333751:=0
def tw16835514516715994885:=0
def tw16757798719941418990:=0
def tw16753671931599340983:=0
def tw16404187259847336379:=0
def tw16214610564765536614:=0
def tw16111029709590304821:=0
def tw15967904826011684258:=0
def tw15861895287539168605:=0
def tw15783382239654398190:=0
def tw15085471709175588573:=0
def tw14990510198021084712:=0
def tw14712177332226121448:=0
def tw1455910650266718962:=0
def tw14287949561034964340:=0
def tw14129010472422970875:=0
def tw1379642163444165896:=0
def tw13739754320596250424:=0
def tw13705513271856115468:=0
end PySem.W.Fast
open PySem PySem.W PyProof.Rows
set_option maxRecDepth 100000 in
set_option maxHeartbeats 0 in
theorem PySem.Challenge.cw_deedloom_k03_lines_that_write_none_holds : PySem.Challenge.rw_deedloom_k03_lines_that_write_none.Holds := by
 w_on; o_law; k_head; (case hw=>w_witness2)
 k_fill
 refine K03.Bi (l := PySem.Challenge.rw_deedloom_k03_lines_that_write_none) rfl rfl rfl (fun w h Y=>PySem.W.kIn_of Y) ?F
 case F =>
  intro w mg h KX G
  exact ⟨⟨_,_,_,_,_,_,_,_,_,_,_,_,_,_,_,_,_,_,_,_,_,_,_,_,_,_,_,_,_,_,_,_,_,_,_,_,_,_,_,_,_,_,_,_,_,_,_,_,_,_,_,_,_,_,_,_,_,_,_,_,_,_,_,_,_,_,_,_,_,_,_,_,_,_,_,_,_,_,_,_,_,_,_,_,_,_,_,_,_,_,_,_,_,_,_,_,_⟩,⟨PySem.W.mg_of KX G ∅,PySem.W.mg_of KX G ∅,PySem.W.mg_of KX G ∅,PySem.W.mg_of KX G ∅,PySem.W.mg_of KX G ∅,PySem.W.mg_of KX G ∅,PySem.W.mg_of KX G ∅,PySem.W.mg_of KX G ∅,PySem.W.mg_of KX G ∅,K03.yX ∅,L2.zj KX G ∅ ∅ ∅ ∅ ∅ ∅ ∅,by show PySem.W.findIn _ _ _ = some none; simp_arith [],by show PySem.W.findIn _ _ _ = some none; simp_arith [],by show PySem.W.findIn _ _ _ = some none; simp_arith [],by show PySem.W.findIn _ _ _ = some none; simp_arith [],L2.zj KX G ∅ ∅ ∅ ∅ ∅ ∅ ∅,by show PySem.W.findIn _ _ _ = some none; simp_arith [],by show PySem.W.findIn _ _ _ = some none; simp_arith [],by show PySem.W.findIn _ _ _ = some none; simp_arith [],by show PySem.W.findIn _ _ _ = some none; simp_arith [],by show PySem.W.findIn _ _ _ = some none; simp_arith [],PySem.W.mg_of KX G ∅,PySem.W.mg_of KX G ∅,by (try dsimp only); k_exc,⟨by (try dsimp only); k_is,by (try dsimp only); k_is,by (try dsimp only); k_is,by (try dsimp only); k_is,by (try dsimp only); k_is,by (try dsimp only); k_is,by (try dsimp only); k_is,by (try dsimp only); k_is⟩,by (try dsimp only); kts_exm,by (try dsimp only); kit_is,by (try dsimp only); kit_is,L2.fG ∅ ∅ ∅ ∅ ∅ (L2.bn5 fun _ _ _ _ _ _ _ _ _ _ _=>rfl),L2.ck KX G ∅ ∅ ∅ ∅ (L2.bn1 fun _ _ _ _ _ _ _=>rfl),L2.ck KX G ∅ ∅ ∅ ∅ (L2.bn1 fun _ _ _ _ _ _ _=>rfl),L2.ck KX G ∅ ∅ ∅ ∅ (L2.bn1 fun _ _ _ _ _ _ _=>rfl),L2.ck KX G ∅ ∅ ∅ ∅ (L2.bn1 fun _ _ _ _ _ _ _=>rfl),L2.ck KX G ∅ ∅ ∅ ∅ (L2.bn1 fun _ _ _ _ _ _ _=>rfl),L2.ck KX G ∅ ∅ ∅ ∅ (L2.bn3 fun _ _ _ _ _ _ _ _ _=>rfl),L2.ck KX G ∅ ∅ ∅ ∅ (L2.bn2 fun _ _ _ _ _ _ _ _=>rfl),L2.ck KX G ∅ ∅ ∅ ∅ (L2.bn1 fun _ _ _ _ _ _ _=>rfl),L2.ck KX G ∅ ∅ ∅ ∅ (L2.bn1 fun _ _ _ _ _ _ _=>rfl),L2.fG ∅ ∅ ∅ ∅ ∅ (L2.bn4 fun _ _ _ _ _ _ _ _ _ _=>rfl),L2.fG ∅ ∅ ∅ ∅ ∅ (L2.bn1 fun _ _ _ _ _ _ _=>rfl),L2.fG ∅ ∅ ∅ ∅ ∅ (L2.bn1 fun _ _ _ _ _ _ _=>rfl),L2.fG ∅ ∅ ∅ ∅ ∅ (L2.bn2 fun _ _ _ _ _ _ _ _=>rfl),L2.fG ∅ ∅ ∅ ∅ ∅ (L2.bn2 fun _ _ _ _ _ _ _ _=>rfl),L2.fG ∅ ∅ ∅ ∅ ∅ (L2.bn2 fun _ _ _ _ _ _ _ _=>rfl),L2.fG ∅ ∅ ∅ ∅ ∅ (L2.bn3 fun _ _ _ _ _ _ _ _ _=>rfl),L2.fG ∅ ∅ ∅ ∅ ∅ (L2.bn3 fun _ _ _ _ _ _ _ _ _=>rfl),L2.fG ∅ ∅ ∅ ∅ ∅ (L2.bn2 fun _ _ _ _ _ _ _ _=>rfl),L2.fG ∅ ∅ ∅ ∅ ∅ (L2.bn1 fun _ _ _ _ _ _ _=>rfl),L2.fG ∅ ∅ ∅ ∅ ∅ (L2.bn2 fun _ _ _ _ _ _ _ _=>rfl),L2.fG ∅ ∅ ∅ ∅ ∅ (L2.bn2 fun _ _ _ _ _ _ _ _=>rfl),L2.ck KX G ∅ ∅ ∅ ∅ (L2.bn2 fun _ _ _ _ _ _ _ _=>rfl),L2.ck KX G ∅ ∅ ∅ ∅ (L2.bn1 fun _ _ _ _ _ _ _=>rfl),L2.ck KX G ∅ ∅ ∅ ∅ (L2.bn3 fun _ _ _ _ _ _ _ _ _=>rfl),L2.ck KX G ∅ ∅ ∅ ∅ (L2.bn3 fun _ _ _ _ _ _ _ _ _=>rfl),L2.ck KX G ∅ ∅ ∅ ∅ (L2.bn2 fun _ _ _ _ _ _ _ _=>rfl),L2.ck KX G ∅ ∅ ∅ ∅ (L2.bn1 fun _ _ _ _ _ _ _=>rfl),L2.ck KX G ∅ ∅ ∅ ∅ (L2.bn4 fun _ _ _ _ _ _ _ _ _ _=>rfl),L2.ck KX G ∅ ∅ ∅ ∅ (L2.bn1 fun _ _ _ _ _ _ _=>rfl),L2.ck KX G ∅ ∅ ∅ ∅ (L2.bn3 fun _ _ _ _ _ _ _ _ _=>rfl),L2.ck KX G ∅ ∅ ∅ ∅ (L2.bn2 fun _ _ _ _ _ _ _ _=>rfl),L2.ck KX G ∅ ∅ ∅ ∅ (L2.bn1 fun _ _ _ _ _ _ _=>rfl),L2.ck KX G ∅ ∅ ∅ ∅ (L2.bn4 fun _ _ _ _ _ _ _ _ _ _=>rfl),L2.ck KX G ∅ ∅ ∅ ∅ (L2.bn3 fun _ _ _ _ _ _ _ _ _=>rfl),L2.ck KX G ∅ ∅ ∅ ∅ (L2.bn3 fun _ _ _ _ _ _ _ _ _=>rfl),L2.ck KX G ∅ ∅ ∅ ∅ (L2.bn1 fun _ _ _ _ _ _ _=>rfl),L2.ck KX G ∅ ∅ ∅ ∅ (L2.bn3 fun _ _ _ _ _ _ _ _ _=>rfl),L2.ck KX G ∅ ∅ ∅ ∅ (L2.bn4 fun _ _ _ _ _ _ _ _ _ _=>rfl),L2.ck KX G ∅ ∅ ∅ ∅ (L2.bn1 fun _ _ _ _ _ _ _=>rfl),L2.ck KX G ∅ ∅ ∅ ∅ (L2.bn1 fun _ _ _ _ _ _ _=>rfl),L2.ck KX G ∅ ∅ ∅ ∅ (L2.bn1 fun _ _ _ _ _ _ _=>rfl),PySem.W.mg_none_of KX G ∅,PySem.W.mg_none_of KX G ∅,PySem.W.mg_none_of KX G ∅,PySem.W.mg_none_of KX G ∅,PySem.W.mg_none_of KX G ∅,PySem.W.mg_none_of KX G ∅,PySem.W.mg_none_of KX G ∅,PySem.W.mg_none_of KX G ∅,PySem.W.mg_none_of KX G ∅,PySem.W.mg_none_of KX G ∅⟩⟩
