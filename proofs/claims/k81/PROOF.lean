import PyProof.Rows.All
import Wide.All
import OpenK.AllK
import Wide.One
import Wide.Seal
import PySem.Challenge.RW_deedloom_k81_whole_fewer_states_run_alik
set_option genSizeOf false
set_option compiler.extract_closed false
set_option Elab.async false
set_option linter.all false
set_option maxRecDepth 100000
local macro_rules|`($d:definition)=>`(noncomputable $d:definition)
local macro_rules|`(tactic|omega)=>`(tactic|first|assumption|lia|omega +splitNatSub)
noncomputable section
set_option linter.all false
namespace Zq
open PySem
def zq0:=@if_neg
def zq1:=@if_pos
def zq2:=@wpAny_bind
def zq3:=@List.length_map
def zq4:=@wpAny_pure
def zq5:=@Nat.le_refl
def zq6:=@List.getElem?_eq_getElem
def zq7:=@List.length_append
def zq8:=@sizeLine_eq
def zq9:=@List.mem_cons_of_mem
def zq10:=@List.mem_singleton
def zq11:=@List.getElem?_eq_some_iff
def zq12:=@List.mem_cons
def bw:=@Bool.false_ne_true
def bC:=@decide_eq_false
def bD:=@List.mem_of_getElem?
def bE:=@List.getElem?_map
def bT:=@Heap.lt_size
def zq18:=@List.mem_append
def bV:=@List.length_singleton
def cc:=@Heap.get?_push_of_some
def ce:=@List.map_cons
def cf:=@decide_eq_true
def cg:=@List.map_append
def cq:=@Nat.zero_le
def cw:=@List.getD_eq_getElem?_getD
def cF:=@Nat.ne_of_lt
def cV:=@List.mem_cons_self
def cW:=@List.length_cons
def d5:=@List.mem_append_right
def du:=@Heap.get?_push_size
def dw:=@List.length_take
def dy:=@List.take_succ_eq_append_getElem
def dI:=@Nat.le_trans
def zq34:=@List.nodup_cons
def dZ:=@List.take_length
def zq36:=@List.mem_map
def eg:=@List.length_range
def eG:=@Bool.and_eq_true
def eI:=@Int.emod_nonneg
def zq40:=@List.mem_range
def fc:=@List.size_toArray
def zq42:=@Option.map_eq_some_iff
def fj:=@Nat.lt_of_lt_of_le
def zq44:=@List.all_eq_true
def fJ:=@List.map_map
def gk:=@Int.emod_lt_of_pos
def iu:=@List.mem_append_left
def iw:=@wpAny_mono
def ix:=@List.append_nil
def iy:=@List.getElem?_append_right
def iz:=@List.getElem_mem
def iX:=@Bool.eq_iff_iff
def jp:=@List.getElem?_append_left
def zq54:=@List.length_eq_zero_iff
def kK:=@Int.toNat_natCast
def zq56:=@List.length_pos_iff
def kU:=@Heap.size_push
def kW:=@Int.eq_ofNat_of_zero_le
def kX:=@List.getElem?_eq_none
def nM:=@Nat.lt_irrefl
def zq61:=@List.mem_filter
def nN:=@List.length_dropLast
def nO:=@Int.one_mul
def nP:=@decide_eq_true_iff
def nQ:=@List.foldl_append
def nR:=@Nat.le_add_right
def qV:=@wpAny_holding
def zq68:=@beq_iff_eq
def qW:=@List.any_cons
def qX:=@Nat.lt_of_le_of_lt
def qY:=@List.lookup_cons
def qZ:=@Bool.or_eq_true
def rc:=@Int.pow_pos
def rf:=@List.take_of_length_le
def zq75:=@List.nodup_append
def zq76:=@List.mem_iff_getElem?
def rg:=@Nat.sub_self
def tw:=@List.length_set
def tD:=@List.all_cons
def tE:=@Option.map_some
def tF:=@List.map_congr_left
def tG:=@List.sum_cons
def xt:=@Nat.ne_of_gt
def xu:=@List.map_nil
def xv:=@List.countP_cons
def xw:=@Nat.min_eq_left
def xx:=@List.append_assoc
def xy:=@List.dropLast_concat_getLast
def xA:=@List.nil_append
def xB:=@List.getElem_idxOf
def xC:=@List.concat_eq_append
def Bt:=@Nat.lt_succ_self
def Bu:=@Nat.le_succ
def Bv:=@List.getElem?_replicate
def Bw:=@List.length_drop
def By:=@Array.length_toList
def Bz:=@List.cons_append
def BA:=@List.length_nil
def BB:=@List.nodup_nil
def zq100:=@List.any_eq_true
def qJ:=@List.length_filter_le
def qK:=@List.range_succ
def qL:=@Nat.sub_zero
def qM:=@List.ext_getElem?
def qN:=@List.not_mem_nil
def qO:=@List.sublist_append_left
def qP:=@Classical.byContradiction
def qQ:=@List.idxOf_lt_length_of_mem
def qR:=@List.idxOf_append
def qS:=@List.idxOf_cons_self
def qT:=@List.getElem?_range
def qU:=@List.mem_of_mem_take
def vB:=@Nat.le_of_lt
def vC:=@List.length_replicate
def vD:=@Array.getElem?_toList
def vE:=@Nat.add_le_add_left
def vF:=@List.filter_append
def vG:=@Bool.true_and
def vH:=@Nat.pow_le_pow_right
def zq120:=@List.mem_flatMap
def vI:=@List.filter_nil
def vJ:=@List.prefix_refl
def zq123:=@List.mem_flatten
def AU:=@List.filterMap_cons
def AV:=@List.getElem?_set_ne
def AW:=@Bool.false_and
def AX:=@List.of_mem_zip
def AY:=@Heap.get?_update_self
def AZ:=@Bool.false_or
def B0:=@List.forIn_cons
def B1:=@List.getElem?_cons_succ
def B3:=@codeAny_builtin
def B4:=@List.map_singleton
def B5:=@List.drop_zero
def B6:=@Nat.min_eq_right
def B7:=@Nat.pow_succ
def B8:=@Nat.and_le_left
def B9:=@Nat.or_lt_two_pow
def Ba:=@List.pairwise_lt_range
def Bb:=@List.foldl_cons
def Bc:=@List.pairwise_cons
def Bd:=@List.exists_mem_of_ne_nil
def Be:=@wpAny_ite_split
def Bf:=@List.getElem?_inj
def Bg:=@List.sum_append
def Bh:=@List.perm_append_comm
def Bi:=@Nat.zero_add
def Bj:=@List.drop_length
def Bl:=@List.countP_map
def Bm:=@List.any_map
def Bn:=@List.getLastD_eq_getLast?
def Bo:=@List.length_mapIdx
def Bp:=@List.flatten_cons
def Bq:=@Nat.add_sub_cancel
def Br:=@Int.le_of_lt
def Bs:=@List.map_take
def EO:=@List.getElem?_set_self
def zq158:=@Option.isSome_iff_exists
def EQ:=@Heap.get?_update_other
def ER:=@List.getElem?_reverse
def ES:=@List.drop_of_length_le
def zq162:=@Option.isNone_iff_eq_none
def ET:=@List.mem_or_eq_of_mem_set
def EU:=@Array.getElem?_eq_getElem
def EV:=@List.countP_mono_left
def EW:=@List.getElem?_zip_eq_some
def EX:=@List.take_append_drop
def EY:=@List.eq_nil_or_concat
def EZ:=@List.getLast?_eq_getElem?
def F0:=@List.getElem?_dropLast
section
variable{Q R S T U V W X Y Z:Type}
theorem zn{A B:Q->Prop}(a):A a->B a->∃a,A a/\B a:=(⟨a,·,·⟩)
theorem zAA{A B C:Q->R->Prop}(a b):A a b->B a b->C a b->∃a b,A a b/\B a b/\C a b:=(⟨a,b,·,·,·⟩)
theorem zAB{A B C:Prop}:A->B->C->A/\B/\C:=(⟨·,·,·⟩)
theorem zAC{A B C:Q->Prop}(a):A a->B a->C a->∃a,A a/\B a/\C a:=(⟨a,·,·,·⟩)
theorem zAD{A B:Q->R->Prop}(a b):A a b->B a b->∃a b,A a b/\B a b:=(⟨a,b,·,·⟩)
theorem zAE{A B C D:Q->R->Prop}(a b):A a b->B a b->C a b->D a b->∃a b,A a b/\B a b/\C a b/\D a b:=(⟨a,b,·,·,·,·⟩)
theorem zAF{A B C D:Prop}:A->B->C->D->A/\B/\C/\D:=(⟨·,·,·,·⟩)
theorem zAG{A B C D:Q->Prop}(a):A a->B a->C a->D a->∃a,A a/\B a/\C a/\D a:=(⟨a,·,·,·,·⟩)
theorem zAH{A:Q->R->Prop}(a b):A a b->∃a b,A a b:=(⟨a,b,·⟩)
theorem zAI{A B C D E:Prop}:A->B->C->D->E->A/\B/\C/\D/\E:=(⟨·,·,·,·,·⟩)
theorem zAJ{A:Q->R->S->Prop}(a b c):A a b c->∃a b c,A a b c:=(⟨a,b,c,·⟩)
theorem zAK{A B:Q->R->S->Prop}(a b c):A a b c->B a b c->∃a b c,A a b c/\B a b c:=(⟨a,b,c,·,·⟩)
theorem zAL{A B C D E:Q->R->S->Prop}(a b c):A a b c->B a b c->C a b c->D a b c->E a b c->∃a b c,A a b c/\B a b c/\C a b c/\D a b c/\E a b c:=(⟨a,b,c,·,·,·,·,·⟩)
theorem zAM{A B C D E:Q->R->S->T->Prop}(a b c d):A a b c d->B a b c d->C a b c d->D a b c d->E a b c d->∃a b c d,A a b c d/\B a b c d/\C a b c d/\D a b c d/\E a b c d:=(⟨a,b,c,d,·,·,·,·,·⟩)
theorem zAN{A B C:Q->R->S->Prop}(a b c):A a b c->B a b c->C a b c->∃a b c,A a b c/\B a b c/\C a b c:=(⟨a,b,c,·,·,·⟩)
theorem zAO{A B C D:Q->R->S->Prop}(a b c):A a b c->B a b c->C a b c->D a b c->∃a b c,A a b c/\B a b c/\C a b c/\D a b c:=(⟨a,b,c,·,·,·,·⟩)
theorem zAP{A B:Q->R->S->T->Prop}(a b c d):A a b c d->B a b c d->∃a b c d,A a b c d/\B a b c d:=(⟨a,b,c,d,·,·⟩)
theorem zAQ{A B C D E F:Prop}:A->B->C->D->E->F->A/\B/\C/\D/\E/\F:=(⟨·,·,·,·,·,·⟩)
theorem zAR{A B C D E:Q->R->Prop}(a b):A a b->B a b->C a b->D a b->E a b->∃a b,A a b/\B a b/\C a b/\D a b/\E a b:=(⟨a,b,·,·,·,·,·⟩)
theorem zAS{A B C D E:Q->Prop}(a):A a->B a->C a->D a->E a->∃a,A a/\B a/\C a/\D a/\E a:=(⟨a,·,·,·,·,·⟩)
theorem zAT{A B C D E F:Q->R->S->T->Prop}(a b c d):A a b c d->B a b c d->C a b c d->D a b c d->E a b c d->F a b c d->∃a b c d,A a b c d/\B a b c d/\C a b c d/\D a b c d/\E a b c d/\F a b c d:=(⟨a,b,c,d,·,·,·,·,·,·⟩)
theorem zAU{A B C D:Q->R->S->T->Prop}(a b c d):A a b c d->B a b c d->C a b c d->D a b c d->∃a b c d,A a b c d/\B a b c d/\C a b c d/\D a b c d:=(⟨a,b,c,d,·,·,·,·⟩)
theorem zAV{A:Q->R->S->T->U->Prop}(a b c d e):A a b c d e->∃a b c d e,A a b c d e:=(⟨a,b,c,d,e,·⟩)
theorem zAW{A B C D E F H:Prop}:A->B->C->D->E->F->H->A/\B/\C/\D/\E/\F/\H:=(⟨·,·,·,·,·,·,·⟩)
theorem zAX{A:Q->R->S->T->U->V->W->X->Prop}(a b c d e f g i):A a b c d e f g i->∃a b c d e f g i,A a b c d e f g i:=(⟨a,b,c,d,e,f,g,i,·⟩)
theorem zAY{A B C D E F H I J:Prop}:A->B->C->D->E->F->H->I->J->A/\B/\C/\D/\E/\F/\H/\I/\J:=(⟨·,·,·,·,·,·,·,·,·⟩)
theorem zAZ{A B C D E F:Q->R->S->T->U->Prop}(a b c d e):A a b c d e->B a b c d e->C a b c d e->D a b c d e->E a b c d e->F a b c d e->∃a b c d e,A a b c d e/\B a b c d e/\C a b c d e/\D a b c d e/\E a b c d e/\F a b c d e:=(⟨a,b,c,d,e,·,·,·,·,·,·⟩)
theorem zBA{A B C D E F H:Q->R->S->T->Prop}(a b c d):A a b c d->B a b c d->C a b c d->D a b c d->E a b c d->F a b c d->H a b c d->∃a b c d,A a b c d/\B a b c d/\C a b c d/\D a b c d/\E a b c d/\F a b c d/\H a b c d:=(⟨a,b,c,d,·,·,·,·,·,·,·⟩)
theorem zBB{A B C D E F:Q->R->Prop}(a b):A a b->B a b->C a b->D a b->E a b->F a b->∃a b,A a b/\B a b/\C a b/\D a b/\E a b/\F a b:=(⟨a,b,·,·,·,·,·,·⟩)
theorem zBC{A:Q->R->S->T->U->V->W->X->Y->Prop}(a b c d e f g i j):A a b c d e f g i j->∃a b c d e f g i j,A a b c d e f g i j:=(⟨a,b,c,d,e,f,g,i,j,·⟩)
theorem zBD{A B C D E F:Q->R->S->Prop}(a b c):A a b c->B a b c->C a b c->D a b c->E a b c->F a b c->∃a b c,A a b c/\B a b c/\C a b c/\D a b c/\E a b c/\F a b c:=(⟨a,b,c,·,·,·,·,·,·⟩)
theorem zBE{A:Q->R->S->T->Prop}(a b c d):A a b c d->∃a b c d,A a b c d:=(⟨a,b,c,d,·⟩)
theorem zBF{A B C D E F H:Q->R->S->T->U->V->W->Prop}(a b c d e f g):A a b c d e f g->B a b c d e f g->C a b c d e f g->D a b c d e f g->E a b c d e f g->F a b c d e f g->H a b c d e f g->∃a b c d e f g,A a b c d e f g/\B a b c d e f g/\C a b c d e f g/\D a b c d e f g/\E a b c d e f g/\F a b c d e f g/\H a b c d e f g:=(⟨a,b,c,d,e,f,g,·,·,·,·,·,·,·⟩)
theorem zBG{A:Q->R->S->T->U->V->Prop}(a b c d e f):A a b c d e f->∃a b c d e f,A a b c d e f:=(⟨a,b,c,d,e,f,·⟩)
theorem zBH{A B C D E F H I:Q->R->S->T->U->Prop}(a b c d e):A a b c d e->B a b c d e->C a b c d e->D a b c d e->E a b c d e->F a b c d e->H a b c d e->I a b c d e->∃a b c d e,A a b c d e/\B a b c d e/\C a b c d e/\D a b c d e/\E a b c d e/\F a b c d e/\H a b c d e/\I a b c d e:=(⟨a,b,c,d,e,·,·,·,·,·,·,·,·⟩)
theorem zBI{A B C D E F H I J K:Q->R->S->T->U->V->W->Prop}(a b c d e f g):A a b c d e f g->B a b c d e f g->C a b c d e f g->D a b c d e f g->E a b c d e f g->F a b c d e f g->H a b c d e f g->I a b c d e f g->J a b c d e f g->K a b c d e f g->∃a b c d e f g,A a b c d e f g/\B a b c d e f g/\C a b c d e f g/\D a b c d e f g/\E a b c d e f g/\F a b c d e f g/\H a b c d e f g/\I a b c d e f g/\J a b c d e f g/\K a b c d e f g:=(⟨a,b,c,d,e,f,g,·,·,·,·,·,·,·,·,·,·⟩)
theorem zBJ{A:Q->R->S->T->U->V->W->X->Y->Z->Prop}(a b c d e f g i j l):A a b c d e f g i j l->∃a b c d e f g i j l,A a b c d e f g i j l:=(⟨a,b,c,d,e,f,g,i,j,l,·⟩)
theorem zBK{A B C D E F H I J K L M N:Prop}:A->B->C->D->E->F->H->I->J->K->L->M->N->A/\B/\C/\D/\E/\F/\H/\I/\J/\K/\L/\M/\N:=(⟨·,·,·,·,·,·,·,·,·,·,·,·,·⟩)
theorem zBL{A:Q->R->S->T->U->V->W->Prop}(a b c d e f g):A a b c d e f g->∃a b c d e f g,A a b c d e f g:=(⟨a,b,c,d,e,f,g,·⟩)
theorem zBM{A B C D E F H I:Prop}:A->B->C->D->E->F->H->I->A/\B/\C/\D/\E/\F/\H/\I:=(⟨·,·,·,·,·,·,·,·⟩)
theorem zBN{A B C D E F H I J K:Prop}:A->B->C->D->E->F->H->I->J->K->A/\B/\C/\D/\E/\F/\H/\I/\J/\K:=(⟨·,·,·,·,·,·,·,·,·,·⟩)
theorem zBO{A B C D E F H I J K L M:Prop}:A->B->C->D->E->F->H->I->J->K->L->M->A/\B/\C/\D/\E/\F/\H/\I/\J/\K/\L/\M:=(⟨·,·,·,·,·,·,·,·,·,·,·,·⟩)
end
section
variable{Q R S T:Type}{g:Prop}
theorem eQ02{A B C:Prop}(k:A->B->C->g)(h:A/\B/\C):g:=let ⟨hA,hB,hC⟩:=h;k hA hB hC
theorem eQ03{A B C D:Prop}(k:A->B->C->D->g)(h:A/\B/\C/\D):g:=let ⟨hA,hB,hC,hD⟩:=h;k hA hB hC hD
theorem eQ04{A B C D E:Prop}(k:A->B->C->D->E->g)(h:A/\B/\C/\D/\E):g:=let ⟨hA,hB,hC,hD,hE⟩:=h;k hA hB hC hD hE
theorem eQ11{A B:Q->Prop}(k:∀a,A a->B a->g)(h:∃a,A a/\B a):g:=let ⟨a,hA,hB⟩:=h;k a hA hB
theorem eQ12{A B C:Q->Prop}(k:∀a,A a->B a->C a->g)(h:∃a,A a/\B a/\C a):g:=let ⟨a,hA,hB,hC⟩:=h;k a hA hB hC
theorem eQ13{A B C D:Q->Prop}(k:∀a,A a->B a->C a->D a->g)(h:∃a,A a/\B a/\C a/\D a):g:=let ⟨a,hA,hB,hC,hD⟩:=h;k a hA hB hC hD
theorem eQ14{A B C D E:Q->Prop}(k:∀a,A a->B a->C a->D a->E a->g)(h:∃a,A a/\B a/\C a/\D a/\E a):g:=let ⟨a,hA,hB,hC,hD,hE⟩:=h;k a hA hB hC hD hE
theorem eQ20{A:Q->R->Prop}(k:∀a b,A a b->g)(h:∃a b,A a b):g:=let ⟨a,b,hA⟩:=h;k a b hA
theorem eQ21{A B:Q->R->Prop}(k:∀a b,A a b->B a b->g)(h:∃a b,A a b/\B a b):g:=let ⟨a,b,hA,hB⟩:=h;k a b hA hB
theorem eQ22{A B C:Q->R->Prop}(k:∀a b,A a b->B a b->C a b->g)(h:∃a b,A a b/\B a b/\C a b):g:=let ⟨a,b,hA,hB,hC⟩:=h;k a b hA hB hC
theorem eQ23{A B C D:Q->R->Prop}(k:∀a b,A a b->B a b->C a b->D a b->g)(h:∃a b,A a b/\B a b/\C a b/\D a b):g:=let ⟨a,b,hA,hB,hC,hD⟩:=h;k a b hA hB hC hD
theorem eQ24{A B C D E:Q->R->Prop}(k:∀a b,A a b->B a b->C a b->D a b->E a b->g)(h:∃a b,A a b/\B a b/\C a b/\D a b/\E a b):g:=let ⟨a,b,hA,hB,hC,hD,hE⟩:=h;k a b hA hB hC hD hE
theorem eQ30{A:Q->R->S->Prop}(k:∀a b c,A a b c->g)(h:∃a b c,A a b c):g:=let ⟨a,b,c,hA⟩:=h;k a b c hA
theorem eQ31{A B:Q->R->S->Prop}(k:∀a b c,A a b c->B a b c->g)(h:∃a b c,A a b c/\B a b c):g:=let ⟨a,b,c,hA,hB⟩:=h;k a b c hA hB
theorem eQ32{A B C:Q->R->S->Prop}(k:∀a b c,A a b c->B a b c->C a b c->g)(h:∃a b c,A a b c/\B a b c/\C a b c):g:=let ⟨a,b,c,hA,hB,hC⟩:=h;k a b c hA hB hC
theorem eQ33{A B C D:Q->R->S->Prop}(k:∀a b c,A a b c->B a b c->C a b c->D a b c->g)(h:∃a b c,A a b c/\B a b c/\C a b c/\D a b c):g:=let ⟨a,b,c,hA,hB,hC,hD⟩:=h;k a b c hA hB hC hD
theorem eQ34{A B C D E:Q->R->S->Prop}(k:∀a b c,A a b c->B a b c->C a b c->D a b c->E a b c->g)(h:∃a b c,A a b c/\B a b c/\C a b c/\D a b c/\E a b c):g:=let ⟨a,b,c,hA,hB,hC,hD,hE⟩:=h;k a b c hA hB hC hD hE
theorem eQ40{A:Q->R->S->T->Prop}(k:∀a b c d,A a b c d->g)(h:∃a b c d,A a b c d):g:=let ⟨a,b,c,d,hA⟩:=h;k a b c d hA
theorem eQ41{A B:Q->R->S->T->Prop}(k:∀a b c d,A a b c d->B a b c d->g)(h:∃a b c d,A a b c d/\B a b c d):g:=let ⟨a,b,c,d,hA,hB⟩:=h;k a b c d hA hB
theorem eQ42{A B C:Q->R->S->T->Prop}(k:∀a b c d,A a b c d->B a b c d->C a b c d->g)(h:∃a b c d,A a b c d/\B a b c d/\C a b c d):g:=let ⟨a,b,c,d,hA,hB,hC⟩:=h;k a b c d hA hB hC
theorem eQ43{A B C D:Q->R->S->T->Prop}(k:∀a b c d,A a b c d->B a b c d->C a b c d->D a b c d->g)(h:∃a b c d,A a b c d/\B a b c d/\C a b c d/\D a b c d):g:=let ⟨a,b,c,d,hA,hB,hC,hD⟩:=h;k a b c d hA hB hC hD
theorem eQ44{A B C D E:Q->R->S->T->Prop}(k:∀a b c d,A a b c d->B a b c d->C a b c d->D a b c d->E a b c d->g)(h:∃a b c d,A a b c d/\B a b c d/\C a b c d/\D a b c d/\E a b c d):g:=let ⟨a,b,c,d,hA,hB,hC,hD,hE⟩:=h;k a b c d hA hB hC hD hE
end
@[inline] def zTt(v:Option Lean.Term)(q:Array (Lean.TSyntax `Lean.Parser.Tactic.rcasesPatLo))(ps:Array (Lean.TSyntax `rintroPat)):Lean.MacroM (Lean.TSyntax `tactic):=do
 let n:=q.size
 let mut t<-match v with
  |none=>`(tactic|(intro h;rcases h with ⟨$q,*⟩))
  |some v=>`(tactic|rcases $v:term with ⟨$q,*⟩)
 if ps.size>0 then t<-`(tactic|$t:tactic<;>rintro $ps*)
 for s in [2:n] do
  let mut p:=#[]
  let mut hs:=#[]
  for x in q[:if s+1=n then n else s] do
   if x.raw[0][0].getNumArgs==1&&x.raw[0][0][0][0].getId==`rfl then
    let h:=Lean.mkIdent (<-Lean.MonadQuotation.addMacroScope (.mkSimple s!"h{hs.size}"))
    hs:=hs.push h
    p:=p.push (<-`(rintroPat|$h:ident))
   else p:=p.push (<-`(rintroPat|($x:rcasesPatLo)))
  if s+1<n then
   let r:=q[s:].toArray
   p:=p.push (<-`(rintroPat|⟨$r,*⟩))
  p:=p++ps
  let mut u<-`(tactic|rintro $p*)
  if hs.size>0 then u<-`(tactic|$u:tactic<;>subst $hs*)
  for i in [0:s+1] do
   if i<5&&s-i<5 then
    let nm:=Lean.mkIdent (.mkSimple s!"eQ{i}{s-i}")
    match v with
    |none=>t<-`(tactic|first|(refine $nm ?_;$u:tactic)|$t:tactic)
    |some v=>if v.raw.isIdent then t<-`(tactic|first|(refine $nm ?_ $v;(try clear $v);$u:tactic)|$t:tactic) else t<-`(tactic|first|(refine $nm ?_ $v;$u:tactic)|$t:tactic)
 pure t
theorem Jkk{p:Prop}(h:p:=by decide +kernel):p:=h
theorem Jkl{p:Prop}(h:p:=by kernel_rfl):p:=h
theorem Jkm{p:Prop}(h:p:=by decide):p:=h
theorem Jlk{p:Prop}(h:p:=by omega):p:=h
theorem Jll{p:Prop}(h:p:=by simp):p:=h
theorem Jlm{p:Prop}(h:p:=by rfl):p:=h
end Zq
open Zq
local macro_rules|`(tactic|obtain ⟨$p,*⟩:=$v)=>if p.getElems.size<3 then Lean.Macro.throwUnsupported else zTt v p #[]
local macro_rules|`(tactic|rintro $p*)=>do
 let some t:=p.findIdx? fun x=>x.raw[0].isOfKind `Lean.Parser.Tactic.rcasesPat.tuple&&x.raw[0][1].getSepArgs.size>2|Lean.Macro.throwUnsupported
 let b<-zTt none (p[t]!.raw[0][1].getSepArgs.map (⟨·⟩)) p[t+1:].toArray
 let a:=p[:t].toArray
 if t>0 then `(tactic|(rintro $a*;$b:tactic)) else pure b
section
open PySem PySem.Spec PyProof.Rows
namespace L2
abbrev Key:=Sum Int Str
def j8:Key->Value->Bool
 | .inl k,v=>Value.isInt k v
 | .inr x,v=>Value.isStrOf x v
def JZ(w:World):Key->Int
 | .inl k=>hashInt k
 | .inr x=>hashStr w x
theorem bU:∀{k:Key} {v:Value},j8 k v=true->(∃i t,k=Sum.inl i/\v=Value.int i t)\/(∃x t,k=Sum.inr x/\v=Value.str x t)
 | .inl i,v,h=>by
  obtain ⟨t,e⟩:=Value.isInt_shape (k:=i) (v:=v) h;exact .inl (zAD i t rfl e)
 | .inr x,v,h=>by obtain ⟨t,e⟩:=Value.isStrOf_shape (x:=x) (v:=v) h;exact .inr (zAD x t rfl e)
theorem wx(i:Int)(t:Tok):j8 (.inl i) (.int i t)=true:=by simp [j8,Value.isInt]
theorem wy(x:Str)(t:Tok):j8 (.inr x) (.str x t)=true:=by simp [j8,Value.isStrOf]
theorem Fo(a b:Int):decide ((Sum.inl a:Key)=Sum.inl b)=(a==b):=by
 by_cases e:a=b
 ·subst e;simp
 ·have h:¬(Sum.inl a:Key)=Sum.inl b:=fun q=>e (Sum.inl.inj q);rw [bC h];exact (beq_eq_false_iff_ne.mpr e).symm
theorem Fs(a b:Str):decide ((Sum.inr a:Key)=Sum.inr b)=decide (a=b):=by
 by_cases e:a=b
 ·subst e;simp
 ·have h:¬(Sum.inr a:Key)=Sum.inr b:=fun q=>e (Sum.inr.inj q);rw [bC h,bC e]
theorem Fp(a:Int)(b:Str):decide ((Sum.inl a:Key)=Sum.inr b)=false:=bC (fun q=>nomatch q)
theorem Fq(a:Str)(b:Int):decide ((Sum.inr a:Key)=Sum.inl b)=false:=bC (fun q=>nomatch q)
def bi(prog:Program)(w:World):PySem.KeyKind prog w Key where
 is:=j8
 hash:=JZ w
 inj:=fun v a b ha hb=>by
  rcases bU ha with ⟨i,t,rfl,rfl⟩ | ⟨x,t,rfl,rfl⟩
  ·rcases bU hb with ⟨j,u,rfl,e⟩ | ⟨y,u,rfl,e⟩
   ·injection e with e1 _;rw [e1]
   ·exact nomatch e
  ·rcases bU hb with ⟨j,u,rfl,e⟩ | ⟨y,u,rfl,e⟩
   ·exact nomatch e
   ·injection e with e1 _;rw [e1]
 byValue:=fun k v h=>by rcases bU h with ⟨i,t,rfl,rfl⟩ | ⟨x,t,rfl,rfl⟩<;>rfl
 pyHash:=fun hv h=>by
  rcases bU hv with ⟨i,t,rfl,rfl⟩ | ⟨x,t,rfl,rfl⟩
  ·exact wpAny_pyHash_int h
  ·exact wpAny_pyHash_str h
 eqBool:=fun hu hv h=>by
  rcases bU hu with ⟨i,t,rfl,rfl⟩ | ⟨x,t,rfl,rfl⟩
  ·rcases bU hv with ⟨j,u,rfl,rfl⟩ | ⟨y,u,rfl,rfl⟩
   ·rw [Fo] at h;exact wpAny_eqBool_int h
   ·rw [Fp] at h;exact SeqAt.EqAt.int_str i t y u _ _ _ _ h
  ·rcases bU hv with ⟨j,u,rfl,rfl⟩ | ⟨y,u,rfl,rfl⟩
   ·rw [Fq] at h;exact SeqAt.EqAt.str_int x t j u _ _ _ _ h
   ·rw [Fs] at h;exact wpAny_eqBool_str h
 «strs»:=fun k x t v h=>by
  rcases bU h with ⟨i,u,rfl,e⟩ | ⟨y,u,rfl,e⟩
  ·exact nomatch e
  ·injection e with e1 _;subst e1
   cases v<;>rfl
theorem pD(prog:Program)(w:World)(i:Int)(t:Tok):(bi prog w).is (.inl i) (.int i t)=true:=wx i t
theorem pE(prog:Program)(w:World)(x:Str)(t:Tok):(bi prog w).is (.inr x) (.str x t)=true:=wy x t
end L2
namespace L2
inductive V where
 |non | bl (b:Bool) | int (i:Int) | str (x:Str) | byt (b:Array UInt8) | flt (b:UInt64) | ref (a:Addr) | ty (n:String)
 deriving DecidableEq
def RelV:V->Value->Prop
 | .non,u=>u=Value.none
 | .bl b,u=>u=Value.bool b
 | .int i,u=>∃t,u=Value.int i t
 | .str x,u=>∃t,u=Value.str x t
 | .byt b,u=>∃t,u=Value.bytes b t
 | .flt b,u=>∃t,u=Value.float b t
 | .ref a,u=>u=Value.ref a
 | .ty n,u=>u=Value.type n
abbrev Vals:List V->List Value->Prop:=Paired RelV
theorem Vals.length{xs:List V}{us:List Value}(r:Vals xs us):xs.length=us.length:=Paired.length r
theorem Vals.get:∀{xs:List V} {us:List Value} {i:Nat} {x:V},Vals xs us->xs[i]?=some x->∃u,us[i]?=some u/\RelV x u
 |_,_,_,_,.nil,e=>by simp at e
 |_,_,0,_,.cons r _,e=>by simp at e;subst e;exact zn _ rfl r
 |_,_,i+1,x,.cons _ t,e=>by obtain ⟨u,h1,h2⟩:=Vals.get (i:=i) (x:=x) t (by simpa using e);exact zn u (by simpa using h1) h2
theorem Vals.set{x:V}{u:Value}(r:RelV x u):∀{xs:List V} {us:List Value} (i:Nat),Vals xs us->Vals (xs.set i x) (us.set i u)
 |_,_,_,.nil=>.nil
 |_,_,0,.cons _ t=>.cons r t
 |_,_,i+1,.cons q t=>.cons q (Vals.set r i t)
theorem Vals.append:∀{xs ys:List V} {us ws:List Value},Vals xs us->Vals ys ws->Vals (xs++ys) (us++ws)
 |_,_,_,_,.nil,s=>s
 |_,_,_,_,.cons r t,s=>.cons r (Vals.append t s)
theorem Vals.take:∀{xs:List V} {us:List Value} (n:Nat),Vals xs us->Vals (xs.take n) (us.take n)
 |_,_,0,_=>.nil
 |_,_,_+1,.nil=>.nil
 |_,_,n+1,.cons r t=>.cons r (Vals.take n t)
theorem Vals.drop:∀{xs:List V} {us:List Value} (n:Nat),Vals xs us->Vals (xs.drop n) (us.drop n)
 |_,_,0,r=>r
 |_,_,_+1,.nil=>.nil
 |_,_,n+1,.cons _ t=>Vals.drop n t
def RelO:Option V->Option Value->Prop
 |some v,some u=>RelV v u
 |none,none=>True
 |_,_=>False
def KV{κ:Type}:List (κ×V)->List (κ×Value)->Prop:=Paired fun (p:κ×V) (q:κ×Value)=>p.1=q.1/\RelV p.2 q.2
def kV:Key->V
 | .inl i=>.int i
 | .inr x=>.str x
inductive HO where
 /-- a list -/
 |lst (xs:List V)
 /-- a tuple (never changes) -/
 |tup (xs:List V)
 /-- a dict whose keys are ints and texts;one whose keys are tuples of ints and texts (the empty one is both) -/
 |dK (kvs:List (Key×V)) | dT (kvs:List (List Key×V))
 /-- a set of ints: its members,its size -/
 |set (S:Int->Bool) (n:Nat)
 /-- an instance of the class at C,its dict at dx,its attributes -/
 |ins (C dx:Addr) (fs:List (Str×V))
 /-- the dict of the instance at x -/
 |own (x:Addr)
 /-- the dict of an exception -/
 |xd (fs:List (Str×V))
 /-- a bound method,f of x -/
 |met (f x:Addr)
 /-- a range object lo,lo+1,.. below hi -/
 |rng (lo hi:Int)
 /-- a thing that is known to the object (the script;a dict while a loop walks it): read,never written while it is so -/
 |frz (o:Obj) (u:HO)
 /-- a code object's table -/
 |tbl (ps:Array Value)
 /-- any other thing,by what is true of its one object (a def of one's own: SetO a S n:=HO.ext fun h=>..) -/
 |ext (φ:Heap->Prop)
abbrev Hp:=Addr->Option HO
variable {b:Addr} {u:HO}
def upd(H:Hp)(a:Addr)(o:HO):Hp:=fun b=>if b=a then some o else H b
theorem ac{H:Hp}{a:Addr}{o:HO}:upd H a o a=some o:=by unfold upd;rw [zq1 rfl]
theorem ao{H:Hp}{a:Addr}{o:HO}(h:b≠a):upd H a o b=H b:=by unfold upd;rw [zq0 h]
theorem Dh{H:Hp}{a:Addr}{o:HO}:upd (upd H a o) a u=upd H a u:=by funext b;unfold upd;split<;>rfl
theorem bL{H:Hp}{a:Addr}{o:HO}(h:H a=some o)(h':H b=some u)(d:o≠u):a≠b:=by intro e;subst e;rw [h] at h';exact d (Option.some.inj h')
theorem am{H:Hp}{a:Addr}{o:HO}(h:H a=some o)(h':H b=none):a≠b:=by intro e;subst e;rw [h] at h';cases h'
section
variable (P:Program) (w:World)
def ObjOk(H:Hp)(h:Heap)(a:Addr):HO->Prop
 | .lst xs=>xs.length<=sizeLine/\∃(its:List Value)(n:Nat),Vals xs its/\h.get? a=some {cls:=.type "list",data:=.seq its.toArray n}
 | .tup xs=>xs.length<=sizeLine/\∃its:List Value,Vals xs its/\IsTup h a its.toArray
 | .dK kvs=>kvs.length<=sizeLine/\(a==sysModules)=false/\∃vs,KV kvs vs/\h.DictOf (bi P w) a vs
 | .dT kvs=>kvs.length<=sizeLine/\(a==sysModules)=false/\∃xs:List (List Key×Addr×Value),
   Paired (fun (p:List Key×V) (q:List Key×Addr×Value)=>p.1=q.1/\H q.2.1=some (.tup (p.1.map kV))/\RelV p.2 q.2.2) kvs xs/\
   ∃o es ep,h.get? a=some o/\o.ExactDict/\o.data=.dict es ep/\es.toList=xs.map (entryOfKey (tupleKind (bi P w)))/\(xs.map (·.1)).Nodup
 | .set S n=>h.SetOf (intKind P w) a S n
 | .ins C dx fs=>H dx=some (.own a)/\fs.length<=1000/\dx≠a/\h.get? a=some (W.instObj C dx)/\
   ∃mA,h.Ns1 dx mA/\(∀f,RelO (fs.lookup f) (mA f))/\PySem.Within mA (fs.map (·.1))
 | .own _=>∃o,h.get? a=some o
 | .xd fs=>∃mA,h.Ns1 a mA/\∀f,RelO (fs.lookup f) (mA f)
 | .rng lo hi=>∃t u v,h.get? a=some {cls:=.type "range",data:=.fields #[.int lo t,.int hi u,.int 1 v]}
 | .frz o u=>h.get? a=some o/\ObjOk H h a u
 | .tbl ps=>h.get? a=some {cls:=.none,data:=.fields ps}
 | .met f x=>h.get? a=some (W.methodObj (.ref f) (.ref x))
 | .ext φ=>φ h/\(∃o,h.get? a=some o)/\∀h1 h2:Heap,φ h1->(∀o,h1.get? a=some o->h2.get? a=some o)->φ h2
def HOk(H:Hp)(h:Heap):Prop:=∀a o,H a=some o->ObjOk P w H h a o
end
section
variable {P:Program} {w:World} {H H':Hp} {h h':Heap} {a:Addr} {o:HO}
theorem ObjOk.lt(x:ObjOk P w H h a o):a<h.objs.size:=by
 cases o with
 |lst xs=>obtain ⟨_,_,_,_,e⟩:=x;exact bT e
 |tup xs=>obtain ⟨_,_,_,p⟩:=x;exact p.lt
 |dK kvs=>obtain ⟨_,_,_,_,o,_,_,e,_⟩:=x;exact bT e
 |dT kvs=>obtain ⟨_,_,_,_,o,_,_,e,_⟩:=x;exact bT e
 |set S n=>obtain ⟨o,_,_,_,e,_⟩:=x;exact bT e
 |ins C dx fs=>obtain ⟨_,_,_,e,_⟩:=x;exact bT e
 |own y=>obtain ⟨_,e⟩:=x;exact bT e
 |xd fs=>obtain ⟨_,⟨_,_,_,e,_⟩,_⟩:=x;exact bT e
 |rng lo hi=>obtain ⟨_,_,_,e⟩:=x;exact bT e
 |frz ob u=>obtain ⟨e,_⟩:=x;exact bT e
 |tbl ps=>exact bT (show h.get? a=some _ from x)
 |met f y=>exact bT (show h.get? a=some _ from x)
 |ext φ=>obtain ⟨_,⟨_,e⟩,_⟩:=x;exact bT e
theorem Paired.mapP{α β:Type}{F G:α->β->Prop}:∀{l₁:List α} {l₂:List β},Paired F l₁ l₂->(∀a b,F a b->G a b)->Paired G l₁ l₂
 |_,_,.nil,_=>.nil
 |_,_,.cons r t,f=>.cons (f _ _ r) (Paired.mapP t f)
theorem ObjOk.stay(x:ObjOk P w H h a o)(k:∀b u,(b=a\/H b=some (.own a))->h.get? b=some u->h'.get? b=some u)
  (ho:∀b,H b=some (.own a)->H' b=some (.own a)) (ht:∀b xs,H b=some (.tup xs)->H' b=some (.tup xs)):ObjOk P w H' h' a o:=by
 induction o with
 |lst xs=>obtain ⟨z,its,n,r,e⟩:=x;exact ⟨z,zAD its n r (k _ _ (.inl rfl) e)⟩
 |tup xs=>obtain ⟨z,its,r,ob,e,c⟩:=x;exact ⟨z,zn its r (zn ob (k _ _ (.inl rfl) e) c)⟩
 |dK kvs=>obtain ⟨z,y,vs,r,ob,es,ep,e,c⟩:=x;exact zAB z y (zn vs r (zAK ob es ep (k _ _ (.inl rfl) e) c))
 |dT kvs=>
  obtain ⟨z,y,xs,r,ob,es,ep,e,c⟩:=x;exact zAB z y (zn xs (Paired.mapP r fun p q z=>zAB z.1 (ht _ _ z.2.1) z.2.2) (zAK ob es ep (k _ _ (.inl rfl) e) c))
 |set S n=>obtain ⟨ob,es,ep,t,e,c⟩:=x;exact zAP ob es ep t (k _ _ (.inl rfl) e) c
 |ins C dx fs=>
  obtain ⟨d,z,ne,e,mA,⟨od,es,ep,e2,c⟩,r⟩:=x;exact zAI (ho _ d) z ne (k _ _ (.inl rfl) e) (zn mA (zAK od es ep (k _ _ (.inr d) e2) c) r)
 |own y=>obtain ⟨ob,e⟩:=x;exact ⟨ob,k _ _ (.inl rfl) e⟩
 |xd fs=>obtain ⟨mA,⟨od,es,ep,e,c⟩,r⟩:=x;exact zn mA (zAK od es ep (k _ _ (.inl rfl) e) c) r
 |rng lo hi=>obtain ⟨t,u,v,e⟩:=x;exact zAJ t u v (k _ _ (.inl rfl) e)
 |frz ob u ih=>obtain ⟨e,q⟩:=x;exact ⟨k _ _ (.inl rfl) e,ih q⟩
 |tbl ps=>
  have e:h.get? a=some {cls:=.none,data:=.fields ps}:=x;show h'.get? a=some {cls:=.none,data:=.fields ps};exact k a _ (.inl rfl) e
 |met f y=>
  have e:h.get? a=some (W.methodObj (.ref f) (.ref y)):=x;show h'.get? a=some (W.methodObj (.ref f) (.ref y));exact k a _ (.inl rfl) e
 |ext φ=>obtain ⟨p,⟨o,e⟩,st⟩:=x;exact zAB (st _ _ p fun o q=>k _ _ (.inl rfl) q) ⟨o,k _ _ (.inl rfl) e⟩ st
theorem HOk.lt(x:HOk P w H h)(e:H a=some o):a<h.objs.size:=(x a o e).lt
theorem HOk.fresh(x:HOk P w H h)(e:h.objs.size<=a):H a=none:=by
 cases q:H a with
 |none=>rfl
 |some u=>exact absurd (fj (x.lt q) e) (nM _)
theorem HOk.kept(x:HOk P w H h)(k:∀b u,h.get? b=some u->h'.get? b=some u):HOk P w H h':=fun a o e=>(x a o e).stay (fun b u _ q=>k b u q) (fun _ q=>q) fun _ _ q=>q
theorem HOk.laid(x:HOk P w H h)(k:∀b u,h.get? b=some u->h'.get? b=some u)(hp:h.objs.size<=a)(new:ObjOk P w (upd H a o) h' a o):HOk P w (upd H a o) h':=fun b u e=>by
 have hn:=x.fresh hp
 by_cases hb:b=a
 ·subst hb;rw [ac] at e;cases e;exact new
 ·rw [ao hb] at e;exact (x b u e).stay (fun c v _ q=>k c v q) (fun c q=>by rw [ao (am q hn)];exact q) fun c xs q=>by rw [ao (am q hn)];exact q
end
def Rd(H:Hp)(a:Addr)(u:HO):Prop:=H a=some u\/∃o,H a=some (.frz o u)
theorem Rd.ok{P:Program}{w:World}{H:Hp}{h:Heap}{a:Addr}(r:Rd H a u)(x:HOk P w H h):ObjOk P w H h a u:=by
 rcases r with r | ⟨o,r⟩
 ·exact x a u r
 ·obtain ⟨_,q⟩:=x a _ r;exact q
def Mut:Option HO->Prop
 |some (.lst _)=>True
 |some (.dK _)=>True
 |some (.dT _)=>True
 |some (.set _ _)=>True
 |some (.ins _ _ _)=>True
 |some (.ext _)=>True
 |_=>False
section
variable {P:Program} {w:World} {H:Hp} {h h':Heap} {x e:Addr} {o':HO}
theorem HOk.write(ok:HOk P w H h)(mu:Mut (H x))(he:e=x\/H e=some (.own x))(k:∀b u,b≠e->h.get? b=some u->h'.get? b=some u)(heo:∃u,h'.get? e=some u)
  (new:ObjOk P w (upd H x o') h' x o'):HOk P w (upd H x o') h':=fun b u q=>by
 have nown:∀c y,H c=some (.own y)->c≠x:=fun c y r z=>by subst z;rw [r] at mu;exact mu
 have ntup:∀c xs,H c=some (.tup xs)->c≠x:=fun c xs r z=>by subst z;rw [r] at mu;exact mu
 by_cases hb:b=x
 ·subst hb;rw [ac] at q;cases q;exact new
 ·rw [ao hb] at q
  by_cases hbe:b=e
  ·have q':H b=some (.own x):=by
    rcases he with z | z
    ·exact absurd (hbe.trans z) hb
    ·rw [hbe];exact z
   rw [q] at q';cases q';obtain ⟨v,hv⟩:=heo;exact ⟨v,by rw [hbe];exact hv⟩
  ·refine (ok b u q).stay (fun c v hc r=>k c v ?_ r) (fun c r=>by rw [ao (nown c b r)];exact r) fun c xs r=>by rw [ao (ntup c xs r)];exact r
   rcases hc with rfl | hc
   ·exact hbe
   ·rintro rfl;rcases he with z | z
    ·exact nown c b hc z
    ·rw [hc] at z;cases z;exact hb rfl
end
structure Un(fs ex:List Addr)(H H':Hp)(h h':Heap):Prop where
 keep:∀b o,h.get? b=some o->H b=none->b∉fs->b∉ex->h'.get? b=some o
 slot:∀b o,h.get? b=some o->H b=none->b∈fs->b∉ex->∃sl,h'.get? b=some {o with slots:=sl}
 free:∀b o,h.get? b=some o->H b=none->b∉ex->H' b=none
 there:∀b o,h.get? b=some o->b∉ex->∃o',h'.get? b=some o'
 tups:∀b xs,H b=some (.tup xs)->H' b=some (.tup xs)
 frzs:∀b o u,H b=some (.frz o u)->H' b=some (.frz o u)
 tbls:∀b ps,H b=some (.tbl ps)->∃more,H' b=some (.tbl (ps++more))
section
variable {fs fs' ex ex':List Addr} {H H1 H2:Hp} {h h1 h2 h':Heap} {a x e:Addr} {o:HO}
theorem Un.any(u:Un fs ex H H1 h h1){ob:Obj}(q:h.get? b=some ob)(n:H b=none)(hx:b∉ex):∃sl,h1.get? b=some {ob with slots:=sl}:=by
 by_cases hb:b∈fs
 ·exact u.slot b ob q n hb hx
 ·exact ⟨ob.slots,u.keep b ob q n hb hx⟩
theorem Un.kept(k:∀b u,h.get? b=some u->h'.get? b=some u):Un fs ex H H h h':=
 ⟨fun b ob q _ _ _=>k b ob q,fun b ob q _ _ _=>⟨ob.slots,k b ob q⟩,fun _ _ _ n _=>n,fun b ob q _=>⟨ob,k b ob q⟩,fun _ _ q=>q,fun _ _ _ q=>q,fun _ ps q=>⟨#[],by rw [q];simp⟩⟩
theorem Un.refl:Un fs ex H H h h:=Un.kept fun _ _ q=>q
theorem Un.laid(k:∀b u,h.get? b=some u->h'.get? b=some u)(hp:h.objs.size<=a)(hn:H a=none):Un fs ex H (upd H a o) h h' where
 keep:=fun b u q _ _ _=>k b u q
 slot:=fun b u q _ _ _=>⟨u.slots,k b u q⟩
 free:=fun b u q n _=>by rw [ao (cF (fj (bT q) hp))];exact n
 there:=fun b u q _=>⟨u,k b u q⟩
 tups:=fun b xs q=>by rw [ao (am q hn)];exact q
 frzs:=fun b u xs q=>by rw [ao (am q hn)];exact q
 tbls:=fun b ps q=>⟨#[],by rw [ao (am q hn),q];simp⟩
theorem Un.write(mu:Mut (H x))(he:e=x\/H e=some (.own x))(k:∀b u,b≠e->h.get? b=some u->h'.get? b=some u)(heo:∃u,h'.get? e=some u):Un fs ex H (upd H x o) h h':=by
 have hx:∀b,H b=none->b≠x:=fun b n z=>by subst z;rw [n] at mu;exact mu
 have hb:∀b,H b=none->b≠e:=fun b n z=>by
  subst z;rcases he with r | r
  ·exact hx b n r
  ·rw [n] at r;cases r
 have hm:∀b u,H b=some u->¬Mut (some u)->b≠x:=fun b u q nm z=>by subst z;rw [q] at mu;exact nm mu
 refine ⟨fun b u q n _ _=>k b u (hb b n) q,fun b u q n _ _=>⟨u.slots,k b u (hb b n) q⟩,fun b u q n _=>by rw [ao (hx b n)];exact n,fun b u q _=>?_,
  fun b xs q=>by rw [ao (hm b _ q fun z=>z)];exact q,fun b u xs q=>by rw [ao (hm b _ q fun z=>z)];exact q,fun b ps q=>⟨#[],by rw [ao (hm b _ q fun z=>z),q];simp⟩⟩
 by_cases hbe:b=e
 ·subst hbe;exact heo
 ·exact ⟨u,k b u hbe q⟩
end
def trk(h:Heap)(H:Hp):List Addr:=(List.range h.objs.size).filter fun a=>(H a).isSome
def mN(h:Heap)(H:Hp):Heap:=W.hideAll h (trk h H)
theorem wl(h:Heap)(H:Hp):(mN h H).objs.size=h.objs.size:=W.hideAll_size _ _
theorem yq{h:Heap}{H:Hp}{o:Obj}(e:h.get? b=some o)(n:H b=none):(mN h H).get? b=some o:=
 W.hideAll_get _ e fun hm=>by have q:(H b).isSome=true:=(zq61.mp hm).2;rw [n] at q;simp at q
theorem Ck{h:Heap}{H:Hp}{o:Obj}(e:(mN h H).get? b=some o):h.get? b=some o/\H b=none:=by
 have e':h.get? b=some o:=W.of_hideAll (trk h H) e;refine ⟨e',?_⟩
 cases q:H b with
 |none=>rfl
 |some x=>have hm:b∈trk h H:=zq61.mpr ⟨zq40.mpr (bT e'),by simp [q]⟩;have z:(mN h H).get? b=none:=W.hideAll_none (trk h H) hm;rw [z] at e;cases e
def BF(g h:Heap)(L:Addr):List (Addr×Obj):=(List.range h.objs.size).filterMap fun a=>if a=L\/(g.get? a).isSome=true then none else (h.get? a).map fun o=>(a,o)
def dh(g h:Heap)(L d:Addr):List (Addr×Obj):=(BF g h L).filter fun p=>decide (p.1≠d)
end L2
namespace L2
structure Mod(K:W.Frag)(mg:Str->Option Value)(base:Heap):Prop where
 kin:K.In base
 glob:base.Ns mainGlobals mg
 blt:∃mb,base.Ns builtinsNs mb/\∀x:Str,x≠"__name__"->mb x=bootBuiltins x
 nolimit:base.NoLimit
structure Cx where
 prog:Program
 w:World
 K:W.Frag
 mg:Str->Option Value
 base:Heap
 A:Around
 N:List Str
 s₀:Shared
 H₀:Hp
 env:Env
 outer:List Env
 stack:List Env
 ex:List Addr
 fn:Str->Bool
 calm:Bool
 pn:List (Addr×Obj)
 xe:Value->Shared->Prop
def frs(l:List Env):List Addr:=l.filterMap (·.frame)
abbrev Cx.fs (X:Cx):List Addr:=frs X.outer
def Vis(sc:Scope)(x:Str):Prop:=sc.names.lookup x=some .local\/sc.names.lookup x=some .cell\/sc.names.lookup x=some .free
def Loc(sc:Scope)(x:Str):Prop:=sc.names.lookup x=some .local\/sc.names.lookup x=some .cell
def JS(env:Env)(h:Heap)(m:Str->Option Value)(x:Str)(u:Value):Prop:=
 (env.kindOf x=some .local/\m x=some u)\/((env.kindOf x=some .cell\/env.kindOf x=some .free)/\∃c,env.cells.lookup x=some c/\h.IsCell c (some u))
structure Cx.Ok(X:Cx):Prop where
 mod:Mod X.K X.mg X.base
 kind:X.env.scope.kind=.function
 glob:X.env.globals=mainGlobals
 blt:X.env.builtins=builtinsNs
 above:X.s₀.heap.objs.size<=X.env.locals
 inj:∀x y c,X.env.cells.lookup x=some c->X.env.cells.lookup y=some c->x=y
 has:∀x,(X.env.kindOf x=some .cell\/X.env.kindOf x=some .free)->∃c,X.env.cells.lookup x=some c
 cab:∀x c,X.fn x=true->X.env.cells.lookup x=some c->X.s₀.heap.objs.size<=c
 hd:X.calm=true->X.A.handled=none
 frames:X.A.frames=some X.stack
 stk:X.stack=X.outer\/(X.stack=X.env::X.outer/\X.env.frame=some X.env.locals)
 exf:∀b∈X.ex,b≠X.env.locals/\∀x c,X.env.cells.lookup x=some c->c≠b
 bs:∀b o,X.base.get? b=some o->X.s₀.heap.get? b=some o/\X.H₀ b=none
 bsz:X.base.objs.size<=X.s₀.heap.objs.size
 noex:∀b o,X.base.get? b=some o->b∉X.ex
 exfs:∀b∈X.ex,b∉X.fs
 funs:X.s₀.heap.FunFrames X.base X.outer
 frf:∀b∈X.fs,X.H₀ b=none
structure Inv(X:Cx)(pins:List (Addr×Obj))(σ:List (Option V))(H:Hp)(s:Shared):Prop where
 ok:X.Ok
 os:s.os=X.s₀.os
 bare:AllBare s.gens
 base:Un X.fs X.ex X.H₀ H X.s₀.heap s.heap
 loc:∃m,s.heap.Ns X.env.locals m/\∀(i:Nat)(x:Str)(v:V),X.N[i]?=some x->σ[i]?=some (some v)->Vis X.env.scope x->∃u,RelV v u/\JS X.env s.heap m x u
 cell:∀x c,X.env.cells.lookup x=some c->∃v,s.heap.IsCell c v
 free:H X.env.locals=none
 freeC:∀x c,X.env.cells.lookup x=some c->H c=none
 pin:∀p∈X.pn++pins,s.heap.get? p.1=some p.2/\H p.1=none/\p.1≠X.env.locals/\p.1∉X.fs/\∀v,p.2.data≠.cell v
 hok:HOk X.prog X.w H s.heap
 len:σ.length=X.N.length
section
variable {X:Cx} {pins:List (Addr×Obj)} {σ:List (Option V)} {H H':Hp} {s:Shared} {h':Heap}
theorem Cx.Ok.nofr(ok:X.Ok){b:Addr}{o:Obj}(e:X.base.get? b=some o):b∉X.fs:=fun hb=>by have:=(ok.funs.mem hb).1;rw [e] at this;cases this
theorem Inv.bs(I:Inv X pins σ H s):∀b o,X.base.get? b=some o->s.heap.get? b=some o/\H b=none:=fun b o e=>⟨I.base.keep b o (I.ok.bs b o e).1 (I.ok.bs b o e).2 (I.ok.nofr e) (I.ok.noex b o e),I.base.free b o (I.ok.bs b o e).1 (I.ok.bs b o e).2 (I.ok.noex b o e)⟩
theorem Inv.bk(I:Inv X pins σ H s):∀b o,X.base.get? b=some o->s.heap.get? b=some o:=fun b o e=>(I.bs b o e).1
theorem Inv.mod(I:Inv X pins σ H s):Mod X.K X.mg X.base:=I.ok.mod
theorem Inv.kIn(I:Inv X pins σ H s):X.K.In s.heap:=I.ok.mod.kin.keeps I.bk
theorem Inv.lt(I:Inv X pins σ H s):X.env.locals<s.heap.objs.size:=let ⟨_,hn,_⟩:=I.loc;hn.lt
theorem Inv.sz(I:Inv X pins σ H s):X.s₀.heap.objs.size<=s.heap.objs.size:=dI I.ok.above (vB I.lt)
theorem Inv.nofs(I:Inv X pins σ H s){a:Addr}(h:s.heap.objs.size<=a):a∉X.fs:=fun hb=>by obtain ⟨_,o,ho,_⟩:=I.ok.funs.mem hb;exact absurd (fj (bT ho) (dI I.sz h)) (nM _)
theorem Inv.cne(I:Inv X pins σ H s):∀x c,X.env.cells.lookup x=some c->c≠X.env.locals:=fun x c e z=>by obtain ⟨v,o,ho,hd⟩:=I.cell x c e;obtain ⟨m,⟨o',es,ep,ho',hd',_⟩,_⟩:=I.loc;rw [z,ho'] at ho;cases ho;rw [hd'] at hd;cases hd
theorem Inv.funs(I:Inv X pins σ H s):s.heap.FunFrames X.base X.outer:=by
 have all:∀(l:List Env),(∀b∈frs l,b∈X.fs)->X.s₀.heap.FunFrames X.base l->s.heap.FunFrames X.base l:=by
  intro l
  induction l with
  |nil=>intro _ _;trivial
  |cons env r ih=>intro hs hl;obtain ⟨hk,⟨L,o,hf,hn,ho,hd⟩,hr⟩:=hl;have hL:L∈X.fs:=hs L (by unfold frs;rw [AU,hf];exact cV);obtain ⟨sl,e⟩:=I.base.slot L o ho (I.ok.frf L hL) hL fun z=>I.ok.exfs L z hL;exact zAB hk (zAE L _ hf hn e hd) (ih (fun b hb=>hs b (by unfold frs;rw [AU,hf];exact zq9 _ hb)) hr)
 exact all X.outer (fun _ hb=>hb) I.ok.funs
theorem Inv.stack(I:Inv X pins σ H s):s.heap.FunFrames X.base X.stack:=by
 rcases I.ok.stk with e | ⟨e,hf⟩
 ·rw [e];exact I.funs
 ·rw [e];obtain ⟨m,hn,_⟩:=I.loc;refine .cons (by rw [I.ok.kind];decide) hf hn ?_ I.funs;exact Heap.get?_none_of_le (dI I.ok.bsz I.ok.above)
theorem Inv.stkSub(I:Inv X pins σ H s):∀b∈frs X.stack,b∈X.env.locals::X.fs:=fun b hb=>by
 rcases I.ok.stk with e | ⟨e,hf⟩
 ·rw [e] at hb;exact zq9 _ hb
 ·rw [e] at hb;unfold frs at hb;rw [AU,hf] at hb;exact hb
theorem Inv.stkFree(I:Inv X pins σ H s):∀b∈frs X.stack,H b=none:=fun b hb=>by
 rcases zq12.mp (I.stkSub b hb) with e | hb
 ·rw [e];exact I.free
 ·obtain ⟨_,o,ho,_⟩:=I.ok.funs.mem hb;exact I.base.free b o ho (I.ok.frf b hb) fun z=>I.ok.exfs b z hb
theorem Inv.step{g':Array GenState}{t':Nat}{d':Drawn}{ch:List Addr}(I:Inv X pins σ H s)
  (hch:∀b∈ch,(b∈X.ex\/X.s₀.heap.objs.size<=b)/\b≠X.env.locals/\(∀x c,X.env.cells.lookup x=some c->c≠b)/\∀p∈X.pn++pins,p.1≠b)
  (keep:∀b o,b≠X.env.locals->b∉X.fs->b∉ch->s.heap.get? b=some o->H b=none->h'.get? b=some o)
  (slot:∀b o,b≠X.env.locals->b∈X.fs->b∉ch->s.heap.get? b=some o->H b=none->∃sl,h'.get? b=some {o with slots:=sl}) (free:∀b o,b∉ch->s.heap.get? b=some o->H b=none->H' b=none)
  (there:∀b o,b∉ch->s.heap.get? b=some o->∃o',h'.get? b=some o')
  (tups:∀b xs,H b=some (.tup xs)->H' b=some (.tup xs)) (frzs:∀b o u,H b=some (.frz o u)->H' b=some (.frz o u)) (tbls:∀b ps,H b=some (.tbl ps)->∃more,H' b=some (.tbl (ps++more)))
  (ns:∀m,s.heap.Ns X.env.locals m->h'.Ns X.env.locals m) (hok:HOk X.prog X.w H' h') (hg:AllBare g') :
  Inv X pins σ H' {s with heap:=h',gens:=g',drawn:=d',toks:=t'}:=by
 have neL:∀b o,X.s₀.heap.get? b=some o->b≠X.env.locals:=fun b o e=>cF (fj (bT e) I.ok.above);have neC:∀b o,X.s₀.heap.get? b=some o->b∉X.ex->b∉ch:=fun b o e hx hb=>by
  rcases (hch b hb).1 with z | z
  ·exact hx z
  ·exact absurd (fj (bT e) z) (nM _)
 have cellK:∀x c,X.env.cells.lookup x=some c->∀v,s.heap.IsCell c v->h'.IsCell c v:=fun x c e v ⟨o,ho,hd⟩=>by
  have nch:c∉ch:=fun z=>(hch c z).2.2.1 x c e rfl
  by_cases hc:c∈X.fs
  ·obtain ⟨sl,q⟩:=slot c o (I.cne x c e) hc nch ho (I.freeC x c e);exact zn _ q hd
  ·exact zn o (keep c o (I.cne x c e) hc nch ho (I.freeC x c e)) hd
 refine ⟨I.ok,I.os,hg,⟨fun b o e n hb hx=>?_,fun b o e n hb hx=>?_,fun b o e n hx=>?_,fun b o e hx=>?_,fun b xs e=>tups b xs (I.base.tups b xs e),fun b o xs e=>frzs b o xs (I.base.frzs b o xs e),fun b ps e=>?_⟩,?_,fun x c e=>?_,?_,fun x c e=>?_,fun p hp=>?_,hok,I.len⟩
 ·exact keep b o (neL b o e) hb (neC b o e hx) (I.base.keep b o e n hb hx) (I.base.free b o e n hx)
 ·obtain ⟨sl,e1⟩:=I.base.slot b o e n hb hx;obtain ⟨sl',e2⟩:=slot b _ (neL b o e) hb (neC b o e hx) e1 (I.base.free b o e n hx);exact ⟨sl',e2⟩
 ·obtain ⟨o',e1⟩:=I.base.there b o e hx;exact free b o' (neC b o e hx) e1 (I.base.free b o e n hx)
 ·obtain ⟨o',e1⟩:=I.base.there b o e hx;exact there b o' (neC b o e hx) e1
 ·obtain ⟨m1,e1⟩:=I.base.tbls b ps e;obtain ⟨m2,e2⟩:=tbls b _ e1;exact ⟨m1++m2,by rw [e2,Array.append_assoc]⟩
 ·obtain ⟨m,hn,hl⟩:=I.loc;refine zn m (ns m hn) fun i x v e1 e2 e3=>?_;obtain ⟨u,r,l⟩:=hl i x v e1 e2 e3;refine zn u r ?_;rcases l with l | ⟨k,c,e,z⟩
  ·exact .inl l
  ·exact .inr ⟨k,zn c e (cellK x c e _ z)⟩
 ·obtain ⟨v,z⟩:=I.cell x c e;exact ⟨v,cellK x c e v z⟩
 ·obtain ⟨m,⟨o,_,_,ho,_⟩,_⟩:=I.loc;exact free _ o (fun z=>(hch _ z).2.1 rfl) ho I.free
 ·obtain ⟨v,o,ho,hd⟩:=I.cell x c e;exact free c o (fun z=>(hch c z).2.2.1 x c e rfl) ho (I.freeC x c e)
 ·obtain ⟨e,n,ne,nf,d⟩:=I.pin p hp;have nch:p.1∉ch:=fun z=>(hch p.1 z).2.2.2 p hp rfl;exact zAI (keep p.1 p.2 ne nf nch e n) (free p.1 p.2 nch e n) ne nf d
theorem Inv.un{t':Nat}(I:Inv X pins σ H s)(u:Un X.fs [] H H' s.heap h')(hok:HOk X.prog X.w H' h'):Inv X pins σ H' {s with heap:=h',toks:=t'}:=by obtain ⟨m,⟨o,es,ep,ho,r⟩,_⟩:=id I.loc;obtain ⟨sl,hL⟩:=u.any ho I.free Jll;exact I.step (g':=s.gens) (d':=s.drawn) (ch:=[]) (fun _ z=>nomatch z) (fun b o _ hb _ e n=>u.keep b o e n hb Jll) (fun b o _ hb _ e n=>u.slot b o e n hb Jll) (fun b o _ e n=>u.free b o e n Jll) (fun b o _ e=>u.there b o e Jll) u.tups u.frzs u.tbls (fun m' hm=>by obtain ⟨o',es',ep',ho',r'⟩:=hm;rw [ho] at ho';cases ho';exact zAK _ es' ep' hL r') hok I.bare
theorem Inv.call{g':Array GenState}{t':Nat}{d':Drawn}{ch:List Addr}(I:Inv X pins σ H s)(u:Un (frs X.stack) ch H H' s.heap h')(hok:HOk X.prog X.w H' h')(hg:AllBare g')
  (hch:∀b∈ch,(b∈X.ex\/X.s₀.heap.objs.size<=b)/\b≠X.env.locals/\(∀x c,X.env.cells.lookup x=some c->c≠b)/\∀p∈X.pn++pins,p.1≠b) :
  Inv X pins σ H' {s with heap:=h',gens:=g',drawn:=d',toks:=t'}:=by
 obtain ⟨m,⟨o,es,ep,ho,r⟩,_⟩:=id I.loc;obtain ⟨sl,hL⟩:=u.any ho I.free fun z=>(hch _ z).2.1 rfl;exact I.step (ch:=ch) hch (fun b o hL hb hc e n=>u.keep b o e n (fun z=>(zq12.mp (I.stkSub b z)).elim hL hb) hc) (fun b o _ _ hc e n=>u.any e n hc) (fun b o hc e n=>u.free b o e n hc) (fun b o hc e=>u.there b o e hc) u.tups u.frzs u.tbls (fun m' hm=>by obtain ⟨o',es',ep',ho',r'⟩:=hm;rw [ho] at ho';cases ho';exact zAK _ es' ep' hL r') hok hg
theorem Inv.turned{t':Nat}{it:Addr}(I:Inv X pins σ H s)(k:∀b o,b≠it->s.heap.get? b=some o->h'.get? b=some o)(hn:H it=none)(hL:it≠X.env.locals)
  (h1:it∈X.ex\/X.s₀.heap.objs.size<=it) (h2:∀x c,X.env.cells.lookup x=some c->c≠it) (h3:∀p∈X.pn++pins,p.1≠it):Inv X pins σ H {s with heap:=h',toks:=t'}:=by
 have nit:∀b u,H b=some u->b≠it:=fun b u e z=>by rw [z,hn] at e;cases e
 refine I.step (g':=s.gens) (d':=s.drawn) (ch:=[it]) (fun b hb=>?_) (fun b o _ _ hc e _=>k b o (fun z=>hc (by simp [z])) e) (fun b o _ _ hc e _=>⟨o.slots,k b o (fun z=>hc (by simp [z])) e⟩) (fun _ _ _ _ n=>n)
  (fun b o hc e=>⟨o,k b o (fun z=>hc (by simp [z])) e⟩) (fun _ _ e=>e) (fun _ _ _ e=>e) (fun b ps e=>⟨#[],by rw [e];simp⟩) (fun m hm=>?_) (fun b u e=>?_) I.bare
 ·have e:b=it:=by simpa using hb
  subst e;exact zAF h1 hL h2 h3
 ·obtain ⟨o,es,ep,ho,r⟩:=hm;exact zAK o es ep (k _ o (Ne.symm hL) ho) r
 ·refine (I.hok b u e).stay (fun c v hc q=>k c v ?_ q) (fun _ q=>q) fun _ _ q=>q;rcases hc with z | z
  ·rw [z];exact nit b u e
  ·exact nit c _ z
theorem Inv.tok(I:Inv X pins σ H s)(t:Nat):Inv X pins σ H {s with toks:=t}:=I.un (h':=s.heap) (t':=t) Un.refl I.hok
theorem Inv.kept{t':Nat}(I:Inv X pins σ H s)(k:∀b u,s.heap.get? b=some u->h'.get? b=some u):Inv X pins σ H {s with heap:=h',toks:=t'}:=I.un (Un.kept k) (I.hok.kept k)
theorem Inv.laid{a:Addr}{o:HO}{t':Nat}(I:Inv X pins σ H s)(k:∀b u,s.heap.get? b=some u->h'.get? b=some u)(hp:s.heap.objs.size<=a)(new:ObjOk X.prog X.w (upd H a o) h' a o):
  Inv X pins σ (upd H a o) {s with heap:=h',toks:=t'}:=I.un (Un.laid k hp (I.hok.fresh hp)) (I.hok.laid k hp new)
theorem Inv.write{x e:Addr}{o:HO}{t':Nat}(I:Inv X pins σ H s)(mu:Mut (H x))(he:e=x\/H e=some (.own x))(k:∀b u,b≠e->s.heap.get? b=some u->h'.get? b=some u)(heo:∃u,h'.get? e=some u)
  (new:ObjOk X.prog X.w (upd H x o) h' x o):Inv X pins σ (upd H x o) {s with heap:=h',toks:=t'}:=I.un (Un.write mu he k heo) (I.hok.write mu he k heo new)
theorem Inv.pins_of{pins':List (Addr×Obj)}(I:Inv X pins σ H s)(h:∀p∈pins',s.heap.get? p.1=some p.2/\H p.1=none/\p.1≠X.env.locals/\p.1∉X.fs/\∀v,p.2.data≠.cell v):Inv X pins' σ H s:=
 ⟨I.ok,I.os,I.bare,I.base,I.loc,I.cell,I.free,I.freeC,fun p hp=>(zq18.mp hp).elim (fun z=>I.pin p (iu _ z)) (h p),I.hok,I.len⟩
theorem pJ{N:List Str}(hN:N.Nodup){i j:Nat}{x:Str}(a:N[i]?=some x)(b:N[j]?=some x):i=j:=by obtain ⟨h1,e1⟩:=zq11.mp a;obtain ⟨h2,e2⟩:=zq11.mp b;exact (List.getElem_inj hN).mp (e1.trans e2.symm)
theorem xh{M:Model}{A:Around}{E:Value->Shared->Prop}{i:Nat}{x:Str}{v:V}{u:Value}{Q:Unit->Shared->Prop}(I:Inv X pins σ H s)(hN:X.N.Nodup)(hi:X.N[i]?=some x)(hx:Loc X.env.scope x)(r:RelV v u)
  (h:∀s',Inv X pins (σ.set i (some v)) H s'->(∃a,Heap.SameBut a s.heap s'.heap/\(a=X.env.locals\/X.env.cells.lookup x=some a))->Q () s') (hf:X.fn x=true\/X.env.scope.names.lookup x=some .local:=by first | exact .inl rfl | exact .inr rfl | assumption):wpAny M A (storeName X.env x u) Q E s:=by
 obtain ⟨m,hn,hl⟩:=id I.loc;have hcls:(X.env.scope.kind==.class || (X.env.scope.kind==.module&&X.env.locals != X.env.globals))=false:=by rw [I.ok.kind];rfl
 have hiσ:i<σ.length:=by rw [I.len];exact (zq11.mp hi).1
 have cne:=I.cne;have tracked:∀{a:Addr} {h':Heap},(∃o,s.heap.get? a=some o/\H a=none)->Heap.SameBut a s.heap h'->HOk X.prog X.w H h':=fun {a h'} ha hs b ob e=>by
  obtain ⟨_,_,hfree⟩:=ha;refine (I.hok b ob e).stay (fun c w' hc q=>(hs.2 c ?_).trans q) (fun _ q=>q) fun _ _ q=>q;rintro rfl;rcases hc with rfl | hc
  ·rw [hfree] at e;cases e
  ·rw [hfree] at hc;cases hc
 rcases hx with hk | hk
 ·refine wpAny_storeName_local hk hn (fun h' hn' hs=>?_) hcls;obtain ⟨oL,_,_,hoL,_⟩:=id hn;refine h _ ⟨I.ok,I.os,I.bare,⟨fun b o e n hb hx=>?_,fun b o e n hb hx=>?_,I.base.free,fun b o e hx=>?_,I.base.tups,I.base.frzs,I.base.tbls⟩,zn _ hn' fun j y v' e1 e2 e3=>?_,fun y c e=>?_,I.free,I.freeC,fun p hp=>?_,tracked (zn oL hoL I.free) hs,by simpa using I.len⟩ (zn _ hs (.inl rfl))
  ·exact (hs.2 b (cF (fj (bT e) I.ok.above))).trans (I.base.keep b o e n hb hx)
  ·obtain ⟨sl,e1⟩:=I.base.slot b o e n hb hx;exact ⟨sl,(hs.2 b (cF (fj (bT e) I.ok.above))).trans e1⟩
  ·obtain ⟨o',e1⟩:=I.base.there b o e hx;exact ⟨o',(hs.2 b (cF (fj (bT e) I.ok.above))).trans e1⟩
  ·by_cases hj:j=i
   ·subst hj;rw [hi] at e1;cases e1;rw [EO hiσ] at e2
    cases e2
    exact zn u r (.inl ⟨hk,Jll⟩)
   ·rw [AV (Ne.symm hj)] at e2;obtain ⟨u',r',q⟩:=hl j y v' e1 e2 e3;refine zn u' r' ?_;rcases q with ⟨k,e⟩ | ⟨k,c,e,z⟩
    ·refine .inl ⟨k,?_⟩;have:y≠x:=fun e=>hj (pJ hN e1 (e ▸ hi));simp [this,e]
    ·exact .inr ⟨k,zn c e (z.sameBut hs (cne y c e))⟩
  ·obtain ⟨w',z⟩:=I.cell y c e;exact ⟨w',z.sameBut hs (cne y c e)⟩
  ·obtain ⟨e,n,ne,nf,d⟩:=I.pin p hp;exact zAI ((hs.2 p.1 ne).trans e) n ne nf d
 ·have hfn:X.fn x=true:=by
   rcases hf with z | z
   ·exact z
   ·rw [z] at hk;cases hk
  obtain ⟨c,hc⟩:=I.ok.has x (.inl hk);obtain ⟨w',z⟩:=I.cell x c hc;refine wpAny_storeName_cell I.ok.kind hk hc z (fun h' hc' hs=>?_);obtain ⟨oc,hoc,hocd⟩:=id z;refine h {s with heap:=h'} ⟨I.ok,I.os,I.bare,⟨fun b o e n hb hx=>?_,fun b o e n hb hx=>?_,I.base.free,fun b o e hx=>?_,I.base.tups,I.base.frzs,I.base.tbls⟩,zn m (hn.sameBut hs (Ne.symm (cne x c hc))) fun j y v' e1 e2 e3=>?_,fun y c' e=>?_,I.free,I.freeC,fun p hp=>?_,tracked (zn oc hoc (I.freeC x c hc)) hs,by simpa using I.len⟩ (zn c hs (.inr hc))
  ·exact (hs.2 b (cF (fj (bT e) (I.ok.cab x c hfn hc)))).trans (I.base.keep b o e n hb hx)
  ·obtain ⟨sl,e1⟩:=I.base.slot b o e n hb hx;exact ⟨sl,(hs.2 b (cF (fj (bT e) (I.ok.cab x c hfn hc)))).trans e1⟩
  ·obtain ⟨o',e1⟩:=I.base.there b o e hx;exact ⟨o',(hs.2 b (cF (fj (bT e) (I.ok.cab x c hfn hc)))).trans e1⟩
  ·by_cases hj:j=i
   ·subst hj;rw [hi] at e1;cases e1;rw [EO hiσ] at e2
    cases e2
    exact zn u r (.inr ⟨.inl hk,zn c hc hc'⟩)
   ·rw [AV (Ne.symm hj)] at e2;obtain ⟨u',r',q⟩:=hl j y v' e1 e2 e3;refine zn u' r' ?_;rcases q with q | ⟨k,c',e,z'⟩
    ·exact .inl q
    ·refine .inr ⟨k,zn c' e (z'.sameBut hs ?_)⟩;rintro rfl;exact hj (pJ hN e1 (I.ok.inj _ _ _ e hc ▸ hi))
  ·by_cases hcc:c'=c
   ·subst hcc;exact ⟨_,hc'⟩
   ·obtain ⟨w2,z2⟩:=I.cell y c' e;exact ⟨w2,z2.sameBut hs hcc⟩
  ·obtain ⟨e,n,ne,nf,d⟩:=I.pin p hp;refine zAI ((hs.2 p.1 ?_).trans e) n ne nf d;intro q;rw [q,hoc] at e;have q':oc=p.2:=Option.some.inj e;exact d w' (by rw [<- q'];exact hocd)
theorem qu{M:Model}{A:Around}{E:Value->Shared->Prop}{i:Nat}{x:Str}{v:V}{u:Value}{Q:Unit->Shared->Prop}(I:Inv X pins σ H s)(hN:X.N.Nodup)(hi:X.N[i]?=some x)(hx:Loc X.env.scope x)(r:RelV v u)
  (h:∀s',Inv X pins (σ.set i (some v)) H s'->Q () s') (hf:X.fn x=true\/X.env.scope.names.lookup x=some .local:=by first | exact .inl rfl | exact .inr rfl | assumption):wpAny M A (storeName X.env x u) Q E s:=
 xh I hN hi hx r (fun s' I' _=>h s' I') hf
theorem Inv.call'{s':Shared}{ch:List Addr}(I:Inv X pins σ H s)(ho:s'.os=s.os)(u:Un (frs X.stack) ch H H' s.heap s'.heap)(hok:HOk X.prog X.w H' s'.heap)(hg:AllBare s'.gens)
  (hch:∀b∈ch,(b∈X.ex\/X.s₀.heap.objs.size<=b)/\b≠X.env.locals/\(∀x c,X.env.cells.lookup x=some c->c≠b)/\∀p∈X.pn++pins,p.1≠b):Inv X pins σ H' s':=by
 obtain ⟨h',g',d',t',o'⟩:=s';have e:o'=s.os:=ho;subst e;exact I.call (g':=g') (t':=t') (d':=d') u hok hg hch
end
abbrev XK:=Value->Option Addr->Hp->Prop
abbrev St:=List (Option V)
abbrev VK:=V->Hp->Prop
abbrev TE:=St->Hp->VK->Prop
abbrev TT:=St->Hp->(Bool->Hp->Prop)->Prop
abbrev TA:=St->Hp->(List V->Hp->Prop)->Prop
structure de where
 nx:St->Hp->Prop
 rt:VK
 bk:St->Hp->Prop:=fun _ _=>False
 ct:St->Hp->Prop:=fun _ _=>False
abbrev TS:=de->St->Hp->Prop
def EP(X:Cx)(pins:List (Addr×Obj))(σ:St)(Q:VK)(u:Value)(s':Shared):Prop:=∃v H',Inv X pins σ H' s'/\RelV v u/\Q v H'
def TP(X:Cx)(pins:List (Addr×Obj))(σ:St)(Q:Bool->Hp->Prop)(b:Bool)(s':Shared):Prop:=∃H',Inv X pins σ H' s'/\Q b H'
def AP(X:Cx)(pins:List (Addr×Obj))(σ:St)(Q:List V->Hp->Prop)(us:List Value)(s':Shared):Prop:=∃vs H',Inv X pins σ H' s'/\Vals vs us/\Q vs H'
def SP(X:Cx)(pins:List (Addr×Obj))(D:de)(f:Flow)(s':Shared):Prop:=
 match f with
 | .next=>∃σ' H',Inv X pins σ' H' s'/\D.nx σ' H'
 | .brk=>∃σ' H',Inv X pins σ' H' s'/\D.bk σ' H'
 | .cont=>∃σ' H',Inv X pins σ' H' s'/\D.ct σ' H'
 | .ret u=>∃v σ' H',Inv X pins σ' H' s'/\RelV v u/\D.rt v H'
def PE(X:Cx)(e:Expr)(t:TE):Prop:=
 ∀(pins:List (Addr×Obj)) (s:Shared) (σ:St) (H:Hp) (Q:VK),Inv X pins σ H s->t σ H Q->wpAny (model X.prog X.w) X.A (eval e X.env) (EP X pins σ Q) X.xe s
def PT(X:Cx)(e:Expr)(t:TT):Prop:=
 ∀(pins:List (Addr×Obj)) (s:Shared) (σ:St) (H:Hp) (Q:Bool->Hp->Prop),Inv X pins σ H s->t σ H Q->wpAny (model X.prog X.w) X.A (isTrue e X.env (eval e X.env)) (TP X pins σ Q) X.xe s
def PW(X:Cx)(e:Expr)(t:TT):Prop:=
 ∀(whole:Sem Value)(pins:List (Addr×Obj)) (s:Shared) (σ:St) (H:Hp) (Q:Bool->Hp->Prop),Inv X pins σ H s->t σ H Q->wpAny (model X.prog X.w) X.A (isTrue e X.env whole) (TP X pins σ Q) X.xe s
theorem PW.pt{X:Cx}{e:Expr}{t:TT}(h:PW X e t):PT X e t:=h _
def PA(X:Cx)(es:List Expr)(t:TA):Prop:=
 ∀(pos:Pos)(pins:List (Addr×Obj)) (s:Shared) (σ:St) (H:Hp) (Q:List V->Hp->Prop),Inv X pins σ H s->t σ H Q->wpAny (model X.prog X.w) X.A (spliced (backTo pos (starEach es X.env))) (AP X pins σ Q) X.xe s
def PS(X:Cx)(st:Stmt)(t:TS):Prop:=
 ∀(pins:List (Addr×Obj)) (s:Shared) (σ:St) (H:Hp) (D:de),Inv X pins σ H s->t D σ H->wpAny (model X.prog X.w) X.A (exec st X.env) (SP X pins D) X.xe s
def PSs(X:Cx)(st:List Stmt)(t:TS):Prop:=
 ∀(pins:List (Addr×Obj)) (s:Shared) (σ:St) (H:Hp) (D:de),Inv X pins σ H s->t D σ H->wpAny (model X.prog X.w) X.A (execs st X.env) (SP X pins D) X.xe s
theorem thn{α:Type}{t:Sem α}{Q Q':α->Shared->Prop}{M:Model}{A:Around}{E:Value->Shared->Prop}{s:Shared}(h:wpAny M A t Q E s)(hQ:∀a s,Q a s->Q' a s):wpAny M A t Q' E s:=iw h hQ fun _ _ x=>x
end L2
namespace L2
variable {u:Value} {x:Str}
section
variable {X:Cx}
theorem bin{a b:Expr}{ta tb:TE}(ha:PE X a ta)(hb:PE X b tb){pins:List (Addr×Obj)}{s:Shared}{σ:St}{H:Hp}{R:V->V->Hp->Prop}(I:Inv X pins σ H s)(h:ta σ H fun x H1=>tb σ H1 fun y H2=>R x y H2)
  {α:Type} {Q:α->Shared->Prop} {f:Value->Value->Sem α}
  (hf:∀v u s2 x y H2,Inv X pins σ H2 s2->RelV x v->RelV y u->R x y H2->wpAny (model X.prog X.w) X.A (f v u) Q X.xe s2) :
  wpAny (model X.prog X.w) X.A (eval a X.env) (fun v s₁=>wpAny (model X.prog X.w) X.A (eval b X.env) (fun u s₂=>wpAny (model X.prog X.w) X.A (f v u) Q X.xe s₂) X.xe s₁) X.xe s:=by
 refine thn (ha pins s σ H _ I h) fun v s1 hhx=>?_;obtain ⟨x,H1,I1,r1,q1⟩:=hhx;refine thn (hb pins s1 σ H1 _ I1 q1) fun u s2 hhx=>?_;obtain ⟨y,H2,I2,r2,q2⟩:=hhx;exact hf v u s2 x y H2 I2 r1 r2 q2
def HW(i:Nat):TE:=fun σ H Q=>∃v,σ[i]?=some (some v)/\Q v H
def tC(v:V):TE:=fun _ H Q=>Q v H
theorem G1{i:Nat}{pos:Pos}(hN:X.N[i]?=some x)(hv:Vis X.env.scope x)(hd:(x==("__debug__":Str))=false:=by decide) (hcd:(x==("__classdict__":Str))=false:=by decide):PE X (.Name x pos) (HW i):=by
 intro pins s σ H Q I h;obtain ⟨v,e,h⟩:=h;obtain ⟨m,hn,hl⟩:=I.loc;obtain ⟨u,r,l⟩:=hl i x v hN e hv;have fin:EP X pins σ Q u s:=zAA v H I r h
 rcases l with ⟨hk,hm⟩ | ⟨hk,c,hc,hcell⟩
 ·exact wpAny_Name (wpAny_loadName_local I.ok.kind hk hn hm fin) hd
 ·rcases hk with hk | hk
  ·exact wpAny_Name (wpAny_loadName_cell I.ok.kind hk hc hcell fin) hd
  ·exact wpAny_Name (wpAny_loadName_free I.ok.kind hk hc hcell fin hcd) hd
theorem zj{i j pos}:PE X (.Constant (.int i) j pos) (tC (.int i)):=fun _ _ _ H _ I h=>wpAny_Constant_int (zAA (.int i) H (I.tok _) ⟨_,rfl⟩ h)
theorem Dz{b j pos}:PE X (.Constant (.bool b) j pos) (tC (.bl b)):=fun _ _ _ H _ I h=>Constant_bool (zAA (.bl b) H I rfl h)
theorem zm{j pos}:PE X (.Constant .none j pos) (tC .non):=fun _ _ _ H _ I h=>Constant_none (zAA .non H I rfl h)
theorem zq{x j pos}:PE X (.Constant (.str x) j pos) (tC (.str x)):=fun _ _ _ H _ I h=>Calls.Constant_str (zAA (.str x) H (I.tok _) ⟨_,rfl⟩ h)
def Gl(X:Cx)(x:Str):Prop:=X.env.kindOf x=some .globalImplicit
theorem gW{E:Value->Shared->Prop}{pins:List (Addr×Obj)}{s:Shared}{σ:St}{H:Hp}{pos:Pos}{Q:Value->Shared->Prop}(I:Inv X pins σ H s)(hg:Gl X x)(hm:X.mg x=some u)(h:Q u s)
 (hd:(x==("__debug__":Str))=false:=by decide):wpAny (model X.prog X.w) X.A (eval (.Name x pos) X.env) Q E s:=
 Calls.Name_function_global I.ok.kind hg (Calls.loadGlobal_global (by rw [I.ok.glob];exact I.mod.glob.keeps I.bk) hm h) hd
theorem eX{E:Value->Shared->Prop}{pins:List (Addr×Obj)}{s:Shared}{σ:St}{H:Hp}{pos:Pos}{Q:Value->Shared->Prop}(I:Inv X pins σ H s)(hg:Gl X x)(hm:X.mg x=none)(hv:bootBuiltins x=some u)(h:Q u s)
 (hn:x≠"__name__":=by decide) (hd:(x==("__debug__":Str))=false:=by decide):wpAny (model X.prog X.w) X.A (eval (.Name x pos) X.env) Q E s:=by
 obtain ⟨mb,h1,h2⟩:=I.mod.blt;exact Calls.Name_function_global I.ok.kind hg (Calls.loadGlobal_builtin (by rw [I.ok.glob];exact I.mod.glob.keeps I.bk) hm (by rw [I.ok.blt];exact h1.keeps I.bk) ((h2 x hn).trans hv) h) hd
theorem CC{v:V}{pos:Pos}(hg:Gl X x)(hm:X.mg x=some u)(r:RelV v u)(hd:(x==("__debug__":Str))=false:=by decide):PE X (.Name x pos) (tC v):=
 fun _ _ _ H _ I h=>gW I hg hm (zAA v H I r h) hd
theorem CA{v:V}{pos:Pos}(hg:Gl X x)(hm:X.mg x=none)(hv:bootBuiltins x=some u)(r:RelV v u)(hn:x≠"__name__":=by decide) (hd:(x==("__debug__":Str))=false:=by decide):PE X (.Name x pos) (tC v):=
 fun _ _ _ H _ I h=>eX I hg hm hv (zAA v H I r h) hn hd
variable {a b:Expr} {ta tb:TE} {pos:Pos}
def PC(X:Cx)(op:CmpOp)(a b:Expr)(t:TE):Prop:=
 ∀(pins:List (Addr×Obj)) (s:Shared) (σ:St) (H:Hp) (Q:VK),Inv X pins σ H s->t σ H Q->
  wpAny (model X.prog X.w) X.A (eval a X.env) (fun v s₁=>wpAny (model X.prog X.w) X.A (eval b X.env) (fun u s₂=>wpAny (model X.prog X.w) X.A (compareOp op v u) (EP X pins σ Q) X.xe s₂) X.xe s₁) X.xe s
theorem yF(b:Expr){op:CmpOp}(h:op≠.In)(h2:op≠.NotIn):behindInMarks op b=false:=by
 have e1:(op==CmpOp.In)=false:=by cases op<;>first | rfl | exact absurd rfl h
 have e2:(op==CmpOp.NotIn)=false:=by cases op<;>first | rfl | exact absurd rfl h2
 cases b<;>simp [behindInMarks,e1,e2]
def tB(t:TE):TT:=fun σ H Q=>t σ H fun x H1=>∃c,x=.bl c/\Q c H1
variable {tA tB':TT} {dh:List Expr}
def Jz(t u:TT):TT:=fun σ H Q=>t σ H fun c H1=>if c=true then u σ H1 Q else Q false H1
def tOr(t u:TT):TT:=fun σ H Q=>t σ H fun c H1=>if c=true then Q true H1 else u σ H1 Q
def JD(t:TT):TT:=fun σ H Q=>t σ H fun c H1=>Q (! c) H1
def EG(ta tb:TE):TE:=fun σ H Q=>ta σ H fun x H1=>∃c,x=.bl c/\if c=true then tb σ H1 Q else Q (.bl false) H1
def JE(ta tb:TE):TE:=fun σ H Q=>ta σ H fun x H1=>∃c,x=.bl c/\if c=true then Q (.bl true) H1 else tb σ H1 Q
def tIf(t:TT)(ta tb:TE):TE:=fun σ H Q=>t σ H fun c H1=>if c=true then ta σ H1 Q else tb σ H1 Q
end
end L2
namespace L2
def SqL(K:W.Frag)(H:Hp)(a:Addr)(xs:List V):Prop:=
 Rd H a (.lst xs)\/
  ∃(o:Obj)(its:Array Value)(n:Nat),K.lookup a=some o/\o.cls=.type "list"/\o.dict=none/\o.data=.seq its n/\its.size<=sizeLine/\Vals xs its.toList
def SqT(K:W.Frag)(H:Hp)(a:Addr)(xs:List V):Prop:=
 Rd H a (.tup xs)\/
  ∃(o:Obj)(its:Array Value)(n:Nat),K.lookup a=some o/\o.cls=.type "tuple"/\o.data=.seq its n/\its.size<=sizeLine/\Vals xs its.toList
def JU:Value->Option V
 | .none=>some .non
 | .bool b=>some (.bl b)
 | .int i _=>some (.int i)
 | .str x _=>some (.str x)
 | .bytes b _=>some (.byt b)
 | .float b _=>some (.flt b)
 | .ref a=>some (.ref a)
 | .type n=>some (.ty n)
 |_=>none
theorem RelV.abs{x:V}{u:Value}(r:RelV x u):JU u=some x:=by
 cases x with
 |non=>cases r;rfl
 |bl _=>cases r;rfl
 |int _=>obtain ⟨t,rfl⟩:=r;rfl
 |str _=>obtain ⟨t,rfl⟩:=r;rfl
 |byt _=>obtain ⟨t,rfl⟩:=r;rfl
 |flt _=>obtain ⟨t,rfl⟩:=r;rfl
 |ref _=>cases r;rfl
 |ty _=>cases r;rfl
theorem RelV.inj{x y:V}{u:Value}(r:RelV x u)(q:RelV y u):x=y:=Option.some.inj (r.abs.symm.trans q.abs)
theorem Vals.inj:∀{xs ys:List V} {us:List Value},Vals xs us->Vals ys us->xs=ys
 |_,_,_,.nil,.nil=>rfl
 |_,_,_,.cons r t,.cons r' t'=>by rw [r.inj r',Vals.inj t t']
section
variable {X:Cx} {pins:List (Addr×Obj)} {σ:St} {H:Hp} {s:Shared} {a:Addr} {xs ys:List V}
theorem SqL.of{K:W.Frag}(h:H a=some (.lst xs)):SqL K H a xs:=.inl (.inl h)
theorem SqT.of{K:W.Frag}(h:H a=some (.tup xs)):SqT K H a xs:=.inl (.inl h)
theorem Inv.list(I:Inv X pins σ H s)(h:SqL X.K H a xs):∃its:List Value,Vals xs its/\PlainL s.heap a its.toArray/\xs.length<=sizeLine:=by
 rcases h with h | ⟨o,its,n,hk,hc,hd,hs,hz,r⟩
 ·obtain ⟨z,its,n,r,e⟩:=h.ok I.hok;exact zAC its r (zAE _ n e rfl rfl rfl) z
 ·refine zAC its.toList r (zAE o n (I.kIn a o hk) hc hd (by simpa using hs)) ?_;have e:=r.length;simp only [Array.length_toList] at e;omega
theorem Inv.tuple(I:Inv X pins σ H s)(h:SqT X.K H a xs):∃its:List Value,Vals xs its/\IsTup s.heap a its.toArray/\xs.length<=sizeLine:=by
 rcases h with h | ⟨o,its,n,hk,hc,hs,hz,r⟩
 ·obtain ⟨z,its,r,p⟩:=h.ok I.hok;exact zAC its r p z
 ·refine zAC its.toList r (zAC o (I.kIn a o hk) hc ⟨n,by simpa using hs⟩) ?_;have e:=r.length;simp only [Array.length_toList] at e;omega
theorem Inv.list_inj(I:Inv X pins σ H s)(h:SqL X.K H a xs)(h':SqL X.K H a ys):xs=ys:=by
 obtain ⟨its,r,⟨o,n,e,_,_,d⟩,_⟩:=I.list h;obtain ⟨its',r',⟨o',n',e',_,_,d'⟩,_⟩:=I.list h';rw [e] at e';cases e';rw [d] at d';injection d' with d1 _;have:its=its':=by simpa using congrArg Array.toList d1
 subst this;exact r.inj r'
theorem Inv.tuple_inj(I:Inv X pins σ H s)(h:SqT X.K H a xs)(h':SqT X.K H a ys):xs=ys:=by
 obtain ⟨its,r,⟨o,e,_,n,d⟩,_⟩:=I.tuple h;obtain ⟨its',r',⟨o',e',_,n',d'⟩,_⟩:=I.tuple h';rw [e] at e';cases e';rw [d] at d';injection d' with d1 _;have:its=its':=by simpa using congrArg Array.toList d1
 subst this;exact r.inj r'
end
abbrev Cx.wish (X:Cx) (E:Value->Shared->Prop):Cx:={X with xe:=E}
abbrev Cx.nox (X:Cx):Cx:=X.wish fun _ _=>False
theorem Cx.Ok.wish{X:Cx}(ok:X.Ok)(E:Value->Shared->Prop):(X.wish E).Ok:=
 ⟨ok.mod,ok.kind,ok.glob,ok.blt,ok.above,ok.inj,ok.has,ok.cab,ok.hd,ok.frames,ok.stk,ok.exf,ok.bs,ok.bsz,ok.noex,ok.exfs,ok.funs,ok.frf⟩
theorem Cx.Ok.unwish{X:Cx}{E:Value->Shared->Prop}(ok:(X.wish E).Ok):X.Ok:=
 ⟨ok.mod,ok.kind,ok.glob,ok.blt,ok.above,ok.inj,ok.has,ok.cab,ok.hd,ok.frames,ok.stk,ok.exf,ok.bs,ok.bsz,ok.noex,ok.exfs,ok.funs,ok.frf⟩
section
variable {X:Cx} {pins:List (Addr×Obj)} {σ:St} {H:Hp} {s:Shared} {E:Value->Shared->Prop}
theorem Inv.wish(I:Inv X pins σ H s)(E:Value->Shared->Prop):Inv (X.wish E) pins σ H s:=⟨I.ok.wish E,I.os,I.bare,I.base,I.loc,I.cell,I.free,I.freeC,I.pin,I.hok,I.len⟩
theorem Inv.unwish(I:Inv (X.wish E) pins σ H s):Inv X pins σ H s:=⟨I.ok.unwish,I.os,I.bare,I.base,I.loc,I.cell,I.free,I.freeC,I.pin,I.hok,I.len⟩
theorem SP.unwish{D:de}{f:Flow}{s':Shared}(h:SP (X.wish E) pins D f s'):SP X pins D f s':=by
 cases f with
 |next=>obtain ⟨σ',H',I,q⟩:=h;exact zAD σ' H' I.unwish q
 |brk=>obtain ⟨σ',H',I,q⟩:=h;exact zAD σ' H' I.unwish q
 |cont=>obtain ⟨σ',H',I,q⟩:=h;exact zAD σ' H' I.unwish q
 |ret u=>obtain ⟨v,σ',H',I,r,q⟩:=h;exact zAN v σ' H' I.unwish r q
theorem PSs.nox{st:List Stmt}{t:TS}(h:PSs X.nox st t):PSs X st t:=fun pins s σ H D I hw=>iw (h pins s σ H D (I.wish _) hw) (fun _ _ q=>q.unwish) fun _ _ z=>False.elim z
end
section
variable {X:Cx} {st:Stmt} {dh:List Stmt} {t u:TS} {e:Expr} {te:TE} {pos:Pos}
def EL:TS:=fun D σ H=>D.nx σ H
def HV(t u:TS):TS:=fun D σ H=>t {D with nx:=u D} σ H
def EH:TS:=fun D σ H=>D.ct σ H
theorem Inv.quiet{pins:List (Addr×Obj)}{σ:St}{H:Hp}{s:Shared}(I:Inv X pins σ H s):interactive X.env=false:=by simp [interactive,I.ok.kind]
def EK(te:TE):TS:=fun D σ H=>te σ H fun _ H1=>D.nx σ H1
def AA(te:TE):TS:=fun D σ H=>te σ H D.rt
def HS(c:TT)(t u:TS):TS:=fun D σ H=>c σ H fun b H1=>if b=true then t D σ H1 else u D σ H1
end
abbrev TG:=V->St->Hp->(St->Hp->Prop)->Prop
abbrev TGs:=List V->St->Hp->(St->Hp->Prop)->Prop
def PG(X:Cx)(target:Expr)(t:TG):Prop:=
 ∀(pins:List (Addr×Obj)) (s:Shared) (σ:St) (H:Hp) (v:V) (u:Value) (Q:St->Hp->Prop),Inv X pins σ H s->RelV v u->t v σ H Q->
  wpAny (model X.prog X.w) X.A (assign target X.env u) (fun _ s'=>∃σ' H',Inv X pins σ' H' s'/\Q σ' H') X.xe s
def PGs(X:Cx)(ts:List Expr)(t:TGs):Prop:=
 ∀(pins:List (Addr×Obj)) (s:Shared) (σ:St) (H:Hp) (vs:List V) (us:List Value) (Q:St->Hp->Prop),Inv X pins σ H s->Vals vs us->t vs σ H Q->
  wpAny (model X.prog X.w) X.A (assignInOrder ((assignEach ts X.env).map (·.2)) us) (fun _ s'=>∃σ' H',Inv X pins σ' H' s'/\Q σ' H') X.xe s
abbrev xE:=V->V->V->Hp->(Hp->Prop)->Prop
def F3(X:Cx)(t:xE):Prop:=
 ∀(pins:List (Addr×Obj)) (s:Shared) (σ:St) (H:Hp) (o i v:V) (ov iv u:Value) (Q:Hp->Prop),Inv X pins σ H s->RelV o ov->RelV i iv->RelV v u->t o i v H Q->
  wpAny (model X.prog X.w) X.A (setItem ov iv u) (fun _ s'=>∃H',Inv X pins σ H' s'/\Q H') X.xe s
section
variable {X:Cx} {pos:Pos}
def bK(i:Nat):TG:=fun v σ H Q=>Q (σ.set i (some v)) H
theorem uF{i:Nat}{x:Str}(hN:X.N.Nodup)(hi:X.N[i]?=some x)(hx:Loc X.env.scope x)(hf:X.fn x=true\/X.env.scope.names.lookup x=some .local:=by first | exact .inl rfl | exact .inr rfl | assumption):PG X (.Name x pos) (bK i):=by intro pins s σ H v u Q I r h;exact wpAny_assign_Name (qu I hN hi hx r (fun s' I'=>zAD _ H I' h) hf)
def Ir:TGs:=fun vs σ H Q=>vs=[]/\Q σ H
def Dt(t:TG)(u:TGs):TGs:=fun vs σ H Q=>∃v r,vs=v::r/\t v σ H fun σ' H'=>u r σ' H' Q
def Iu(K:W.Frag)(n:Nat)(t:TGs):TG:=fun v σ H Q=>∃a xs,v=.ref a/\SqT K H a xs/\xs.length=n/\t xs σ H Q
def Fg(to ti:TE)(t:xE):TG:=fun v σ H Q=>to σ H fun o H1=>ti σ H1 fun i H2=>t o i v H2 fun H3=>Q σ H3
theorem G3{o i:Expr}{to ti:TE}{t:xE}(ho:PE X o to)(hi:PE X i ti)(hs:F3 X t)
  (ha:∀v,assign (.Subscript o i pos) X.env v=(do
   let ov <- holding [v] (eval o X.env)
   let iv <- holding [v,ov] (eval i X.env)
   standAt pos
   holding [v,ov,iv] (setItem ov iv v)
   release [v,ov,iv] []):=by intro _;rfl):PG X (.Subscript o i pos) (Fg to ti t):=by
 intro pins s σ H v u Q I r h;rw [ha];refine zq2 (qV (thn (ho pins s σ H _ I h) fun ov s1 hhx=>?_));obtain ⟨x,H1,I1,r1,q1⟩:=hhx;refine zq2 (qV (thn (hi pins s1 σ H1 _ I1 q1) fun iv s2 hhx=>?_));obtain ⟨y,H2,I2,r2,q2⟩:=hhx;refine zq2 (wpAny_standAt (zq2 (qV (thn (hs pins s2 σ H2 x y v ov iv u _ I2 r1 r2 r q2) fun _ s3 hhx=>?_))));obtain ⟨H3,I3,q3⟩:=hhx;exact wpAny_release (zAD σ H3 I3 q3)
def De(te:TE)(g:TG):TS:=fun D σ H=>te σ H fun x H1=>g x σ H1 D.nx
theorem Ge{i:Nat}{x:Str}{e:Expr}{te:TE}{pos':Pos}(hN:X.N.Nodup)(hi:X.N[i]?=some x)(hx:Loc X.env.scope x)(he:PE X e te)(hs:swapsWith e (some (.Name x pos')) pos.line X.env=pure false:=by rfl)(hf:X.fn x=true\/X.env.scope.names.lookup x=some .local:=by first | exact .inl rfl | exact .inr rfl | assumption):
  PS X (.Assign [.Name x pos'] e pos) (De te (bK i)):=by
 intro pins s σ H D I h;refine wpAny_Assign_Name (thn (he pins s σ H _ I h) fun v s1 hhx=>?_) hs;obtain ⟨y,H1,I1,r1,q1⟩:=hhx;exact qu I1 hN hi hx r1 (fun s2 I2=>zAD _ H1 I2 q1) hf
end
section
variable {X:Cx} {pos:Pos}
def AC(c:TT)(tb:TS):TS:=fun D σ H=>∃W:Nat->St->Hp->Prop,(∃m,W m σ H)/\∀m σ H,W m σ H->
 c σ H fun b H1=>if b=true then ∃N:St->Hp->Prop,(∀σ' H',N σ' H'->∃m',m'<m/\W m' σ' H')/\tb {D with nx:=N,ct:=N,bk:=D.nx} σ H1 else D.nx σ H1
end
structure It where
 go:Nat->Hp->Prop
 yld:Nat->Hp->V->Hp->Prop
 stop:Nat->Hp->Prop
def jh(X:Cx)(pins:List (Addr×Obj))(H:Hp)(b:Addr):Prop:=
 H b=none/\b≠X.env.locals/\b∉X.fs/\(b∈X.ex\/X.s₀.heap.objs.size<=b)/\(∀x c,X.env.cells.lookup x=some c->c≠b)/\∀p∈X.pn++pins,p.1≠b
theorem Inv.fpOk{X:Cx}{pins:List (Addr×Obj)}{σ:St}{H H':Hp}{s:Shared}{b:Addr}(I:Inv X pins σ H s)(hb:s.heap.objs.size<=b)(hn:H' b=none):jh X pins H' b:=by
 refine zAQ hn (xt (fj I.lt hb)) (I.nofs hb) (.inr (dI I.sz hb)) (fun x c e z=>?_) fun p hp z=>?_
 ·obtain ⟨v,q⟩:=I.cell x c e;exact absurd (fj q.lt (by rw [z];exact hb)) (nM _)
 ·exact absurd (fj (bT (I.pin p hp).1) (by rw [z];exact hb)) (nM _)
structure kM(P:Program)(w:World)(K:W.Frag)(tg:Expr)(J:It)(fp:List Addr)(it:Addr)(tn:Nat->Heap->Prop):Prop where
 mem:it∈fp
 obj:∀i h,tn i h->∀b∈fp,∃o,h.get? b=some o/\∀v,o.data≠.cell v
 keep:∀i h h',tn i h->(∀b∈fp,∀o,h.get? b=some o->h'.get? b=some o)->tn i h'
 item:∀(X:Cx),X.prog=P->X.w=w->X.K=K->X.calm=true->∀(i:Nat)(pins:List (Addr×Obj)) (s:Shared) (σ:St) (H:Hp) (E:Value->Shared->Prop),Inv X pins σ H s->(∀b∈fp,jh X pins H b)->tn i s.heap->J.go i H->
  wpAny (model P w) X.A (pyNext (.ref it)) (fun r s1=>∃u,r=some u/\
   wpAny (model P w) X.A (letOwnedTupleGo tg (.ref it) u) (fun _ s2=>∃x H',Inv X pins σ H' s2/\RelV x u/\J.yld i H x H'/\tn (i+1) s2.heap/\∀b∈fp,H' b=none) E s1) E s
 done:∀(X:Cx),X.prog=P->X.w=w->X.K=K->X.calm=true->∀(i:Nat)(pins:List (Addr×Obj)) (s:Shared) (σ:St) (H:Hp) (E:Value->Shared->Prop),Inv X pins σ H s->(∀b∈fp,jh X pins H b)->tn i s.heap->J.stop i H->
  wpAny (model P w) X.A (pyNext (.ref it)) (fun r s1=>r=none/\Inv X pins σ H s1) E s
 self:∀(A:Around)(i:Nat)(s:Shared)(Q:Value->Shared->Prop)(E:Value->Shared->Prop),tn i s.heap->Q (.ref it) s->wpAny (model P w) A (pyIter (.ref it)) Q E s
abbrev TI:=St->Hp->(It->Hp->Prop)->Prop
variable {P:Program}
def PIE(X:Cx)(pins:List (Addr×Obj))(σ:St)(tg:Expr)(R:It->Hp->Prop)(itv:Value)(s2:Shared):Prop:=
 ∃(it:Addr)(fp:List Addr)(tn:Nat->Heap->Prop)(J:It)(H':Hp),itv=.ref it/\Inv X pins σ H' s2/\kM X.prog X.w X.K tg J fp it tn/\tn 0 s2.heap/\(∀b∈fp,jh X pins H' b)/\R J H'
def PI(X:Cx)(tg iter:Expr)(wi:TI):Prop:=
 ∀(pins:List (Addr×Obj)) (s:Shared) (σ:St) (H:Hp) (R:It->Hp->Prop),Inv X pins σ H s->wi σ H R->
  wpAny (model X.prog X.w) X.A (eval iter X.env) (fun v s1=>wpAny (model X.prog X.w) X.A (pyIter v) (PIE X pins σ tg R) X.xe s1) X.xe s
theorem ug{M:Model}{A:Around}{E:Value->Shared->Prop}{s:Shared}{tg:Expr}{it:Addr}{u:Value}{o:Obj}{n:String}{vs:Array Value}{Q:Unit->Shared->Prop}(ho:s.heap.get? it=some o)(hc:o.cls=.type n)(hd:o.data=.fields vs)
 (hn:["enumerate","zip","dict_itemiterator","dict_reverseitemiterator","odict_iterator","itertools.zip_longest","itertools.pairwise"].contains n=false) (hQ:Q () s):wpAny M A (letOwnedTupleGo tg (.ref it) u) Q E s:=by
  unfold letOwnedTupleGo
  cases tg<;>first
    |exact zq4 hQ
    | (cases u<;>first
        |exact zq4 hQ
        | (refine zq2 (wpAny_load ho ?_)
           rw [hc,hd];show wpAny M A (if (["enumerate","zip","dict_itemiterator","dict_reverseitemiterator","odict_iterator","itertools.zip_longest","itertools.pairwise"].contains n&&vs[0]?==some (rawInt _))=true then _ else _) Q E s;rw [zq0 (by intro h;rw [hn,AW] at h;cases h)];exact zq4 hQ))
def Itl(K:W.Frag)(a:Addr):It:=
 ⟨fun i H=>∃xs x,SqL K H a xs/\xs[i]?=some x,fun i H x H'=>H'=H/\∀xs,SqL K H a xs->xs[i]?=some x,fun i H=>∃xs,SqL K H a xs/\xs.length<=i⟩
def Itt(K:W.Frag)(a:Addr):It:=
 ⟨fun i H=>∃xs x,SqT K H a xs/\xs[i]?=some x,fun i H x H'=>H'=H/\∀xs,SqT K H a xs->xs[i]?=some x,fun i H=>∃xs,SqT K H a xs/\xs.length<=i⟩
def Itr(lo:Int)(n:Nat):It:=⟨fun i _=>i<n,fun i H x H'=>H'=H/\x=.int (lo+i),fun i _=>n<=i⟩
theorem xj{w:World}{K:W.Frag}{tg:Expr}(a it:Addr):kM P w K tg (Itl K a) [it] it (fun i h=>h.IsListIter it a i) where
 mem:=by simp
 obj:=fun i h st b hb=>by
  have e:b=it:=by simpa using hb
  subst e;obtain ⟨o,e,c,d⟩:=st;exact zn o e (fun v z=>by rw [d] at z;cases z)
 keep:=fun i h h' st k=>st.at fun o e=>k it Jll o e
 item:=by intro X hP hw hK hc i pins s σ H E I hf st hg;subst hP hw hK;obtain ⟨xs,x,hq,hx⟩:=hg;obtain ⟨its,rv,p,hz⟩:=I.list hq;obtain ⟨u,hu,ru⟩:=rv.get hx;obtain ⟨f0,f1,f2,f3,f4,f5⟩:=hf it Jll;refine wpAny_pyNext_list_item st p.isList (x:=u) (by simpa using hu) fun h' st' sb=>?_;have I1:Inv X pins σ H {s with heap:=h'}:=I.turned (t':=s.toks) (fun b o hb e=>(sb.2 b hb).trans e) f0 f1 f3 f4 f5;obtain ⟨o,e,c,d⟩:=id st';exact zn u rfl (ug (s:={s with heap:=h'}) e c d Jkm (zAR x H I1 ru ⟨rfl,fun ys hy=>by rw [I.list_inj hy hq];exact hx⟩ st' fun b hb=>(hf b hb).1))
 done:=by intro X hP hw hK hc i pins s σ H E I hf st hg;subst hP hw hK;obtain ⟨xs,hq,hx⟩:=hg;obtain ⟨its,rv,p,hz⟩:=I.list hq;obtain ⟨f0,f1,f2,f3,f4,f5⟩:=hf it Jll;have hl:=rv.length;exact wpAny_pyNext_list_end (I.ok.hd hc) st p.isList (by simp;omega) fun h' eb=>⟨rfl,I.turned (t':=s.toks) (fun b o hb e=>eb b o hb e) f0 f1 f3 f4 f5⟩
 self:=fun _ _ _ _ _ st h=>wpAny_pyIter_listiter st h
theorem sU{w:World}{K:W.Frag}{tg:Expr}(a it:Addr):kM P w K tg (Itt K a) [it] it (fun i h=>h.IsTupleIter it a i) where
 mem:=by simp
 obj:=fun i h st b hb=>by
  have e:b=it:=by simpa using hb
  subst e;obtain ⟨o,e,c,d⟩:=st;exact zn o e (fun v z=>by rw [d] at z;cases z)
 keep:=fun i h h' st k=>st.at fun o e=>k it Jll o e
 item:=by intro X hP hw hK hc i pins s σ H E I hf st hg;subst hP hw hK;obtain ⟨xs,x,hq,hx⟩:=hg;obtain ⟨its,rv,p,hz⟩:=I.tuple hq;obtain ⟨u,hu,ru⟩:=rv.get hx;obtain ⟨f0,f1,f2,f3,f4,f5⟩:=hf it Jll;refine wpAny_pyNext_tuple_item st (show s.heap.IsTuple a its.toArray from p) (x:=u) (by simpa using hu) fun h' st' sb=>?_;have I1:Inv X pins σ H {s with heap:=h'}:=I.turned (t':=s.toks) (fun b o hb e=>(sb.2 b hb).trans e) f0 f1 f3 f4 f5;obtain ⟨o,e,c,d⟩:=id st';exact zn u rfl (ug (s:={s with heap:=h'}) e c d Jkm (zAR x H I1 ru ⟨rfl,fun ys hy=>by rw [I.tuple_inj hy hq];exact hx⟩ st' fun b hb=>(hf b hb).1))
 done:=by intro X hP hw hK hc i pins s σ H E I hf st hg;subst hP hw hK;obtain ⟨xs,hq,hx⟩:=hg;obtain ⟨its,rv,p,hz⟩:=I.tuple hq;obtain ⟨f0,f1,f2,f3,f4,f5⟩:=hf it Jll;have hl:=rv.length;exact wpAny_pyNext_tuple_end (I.ok.hd hc) st (show s.heap.IsTuple a its.toArray from p) (by simp;omega) fun h' eb=>⟨rfl,I.turned (t':=s.toks) (fun b o hb e=>eb b o hb e) f0 f1 f3 f4 f5⟩
 self:=fun _ _ _ _ _ st h=>wpAny_pyIter_tupleiter st h
theorem sT{w:World}{K:W.Frag}{tg:Expr}(it:Addr)(lo:Int)(n:Nat):kM P w K tg (Itr lo n) [it] it (fun i h=>IsRangeIter h it (lo+(i:Nat) * 1) ((n:Int)-(i:Nat)) 1) where
 mem:=by simp
 obj:=fun i h st b hb=>by
  have e:b=it:=by simpa using hb
  subst e;exact ⟨_,st,fun v z=>by
   have z':Data.fields _=Data.cell v:=z
   cases z'⟩
 keep:=fun i h h' st k=>k it Jll _ st
 item:=by intro X hP hw hK hc i pins s σ H E I hf st hg;subst hP hw hK;obtain ⟨f0,f1,f2,f3,f4,f5⟩:=hf it Jll;have W:=Walks.range (prog:=X.prog) (w:=X.w) (I.ok.hd hc) it lo 1 n;refine W.item i s _ _ hg st fun v h' tk hv st' kk=>?_;obtain ⟨t,rfl⟩:=hv;have I1:Inv X pins σ H {s with heap:=h',toks:=tk}:=I.turned (fun b o hb e=>kk b o (by simpa using hb) e) f0 f1 f3 f4 f5;refine zn _ rfl (ug (s:={s with heap:=h',toks:=tk}) (n:="range_iterator") st' rfl rfl Jkm (zAR (.int (lo+i)) H I1 ⟨t,?_⟩ ⟨rfl,rfl⟩ st' fun b hb=>(hf b hb).1));rw [Int.mul_one]
 done:=by intro X hP hw hK hc i pins s σ H E I hf st hg;subst hP hw hK;obtain ⟨f0,f1,f2,f3,f4,f5⟩:=hf it Jll;exact wpAny_pyNext_range_end (I.ok.hd hc) st (by have:n<=i:=hg;omega) fun h' eb=>⟨rfl,I.turned (t':=s.toks) (fun b o hb e=>eb b o hb e) f0 f1 f3 f4 f5⟩
 self:=fun _ _ _ _ _ st h=>wpAny_pyIter_rangeiter st h
end L2
namespace L2
variable {H:Hp} {g:TG} {pins:List (Addr×Obj)} {s:Shared} {σ:St}
section
variable {X:Cx} {tg:Expr}
def Du(K:W.Frag)(tl:TE):TI:=fun σ H R=>tl σ H fun x H1=>∃a,x=.ref a/\(∃xs,SqL K H1 a xs)/\R (Itl K a) H1
def Iw(K:W.Frag)(tl:TE):TI:=fun σ H R=>tl σ H fun x H1=>∃a,x=.ref a/\(∃xs,SqT K H1 a xs)/\R (Itt K a) H1
theorem A0{R:It->Hp->Prop}{E:Value->Shared->Prop}{lo hi:Int}{t u v:Tok}{tk:Nat}(I:Inv X pins σ H s)(h1:-(2 ^ 62)<=lo)(h2:lo<2 ^ 62)(h3:-(2 ^ 62)<=hi)(h4:hi<2 ^ 62)
 (q:R (Itr lo (hi-lo).toNat) H):wpAny (model X.prog X.w) X.A (pyIter (.ref s.heap.objs.size)) (PIE X pins σ tg R) E {s with heap:=s.heap.push {cls:=.type "range",data:=.fields #[.int lo t,.int hi u,.int 1 v]},toks:=tk}:=by
 refine wpAny_pyIter_range (IsRange.new ..) (small_one h1 h2 h3 h4) ?_;have I1:Inv X pins σ H {s with heap:=s.heap.push {cls:=.type "range",data:=.fields #[.int lo t,.int hi u,.int 1 v]},toks:=tk}:=I.kept fun b o e=>cc _ e;refine ⟨(s.heap.push {cls:=.type "range",data:=.fields #[.int lo t,.int hi u,.int 1 v]}).objs.size,[(s.heap.push {cls:=.type "range",data:=.fields #[.int lo t,.int hi u,.int 1 v]}).objs.size],_,_,H,rfl,
  I1.kept (t':=tk) fun b o e=>cc _ e,sT _ lo (hi-lo).toNat,?_,fun b hb=>?_,q⟩
 ·have e1:lo+((0:Nat):Int) * 1=lo:=by simp
  have e2:(((hi-lo).toNat:Nat):Int)-((0:Nat):Int)=Builtin.Range.rangeSize lo hi 1:=by rw [rangeSize_one];split<;>omega
  show IsRangeIter _ _ (lo+((0:Nat):Int) * 1) ((((hi-lo).toNat:Nat):Int)-((0:Nat):Int)) 1;rw [e1,e2];exact du _ rfl
 ·have e:b=(s.heap.push {cls:=.type "range",data:=.fields #[.int lo t,.int hi u,.int 1 v]}).objs.size:=by simpa using hb
  subst e;exact I1.fpOk (zq5 _) (I1.hok.fresh (zq5 _))
def Dv(ta:TA):TI:=fun σ H R=>ta σ H fun vs H1=>∃j:Int,vs=[.int j]/\-(2 ^ 62)<=j/\j<2 ^ 62/\R (Itr 0 j.toNat) H1
def HR(wi:TI)(g:TG)(tb:TS):TS:=fun D σ H=>wi σ H fun J H1=>∃W:Nat->Nat->St->Hp->Prop,(∃m,W 0 m σ H1)/\∀i m σ H,W i m σ H->
 (J.stop i H/\D.nx σ H)\/(J.go i H/\∃N:St->Hp->Prop,(∀σ' H',N σ' H'->∃m',m'<m/\W (i+1) m' σ' H')/\∀x H',J.yld i H x H'->g x σ H' fun σ2 H2=>tb {D with nx:=N,ct:=N,bk:=D.nx} σ2 H2)
def gI(fp:List Addr)(h:Heap):List (Addr×Obj):=fp.filterMap fun b=>(h.get? b).map fun o=>(b,o)
theorem cL{fp:List Addr}{h:Heap}{b:Addr}{o:Obj}(hb:b∈fp)(e:h.get? b=some o):(b,o)∈gI fp h:=List.mem_filterMap.mpr (zn b hb (by rw [e];rfl))
theorem wG{fp:List Addr}{h:Heap}{p:Addr×Obj}(hp:p∈gI fp h):p.1∈fp/\h.get? p.1=some p.2:=by
 obtain ⟨b,hb,e⟩:=List.mem_filterMap.mp hp
 cases q:h.get? b with
 |none=>rw [q] at e;cases e
 |some o=>rw [q] at e;have e':(b,o)=p:=Option.some.inj e;subst e';exact ⟨hb,q⟩
theorem Inv.pinned{fp:List Addr}(I:Inv X pins σ H s)(hf:∀b∈fp,jh X pins H b)(ho:∀b∈fp,∃o,s.heap.get? b=some o/\∀v,o.data≠.cell v):Inv X (pins++gI fp s.heap) σ H s:=
 I.pins_of fun p hp=>(zq18.mp hp).elim (fun z=>I.pin p (d5 _ z)) fun z=>by obtain ⟨hb,e⟩:=wG z;obtain ⟨f0,f1,f2,_⟩:=hf p.1 hb;obtain ⟨o,e',d⟩:=ho p.1 hb;rw [e] at e';cases e';exact zAI e f0 f1 f2 d
theorem Inv.unpinned{pl:List (Addr×Obj)}(I:Inv X (pins++pl) σ H s):Inv X pins σ H s:=I.pins_of fun p hp=>I.pin p (d5 _ (iu _ hp))
theorem Gd{iter:Expr}{body:List Stmt}{wi:TI}{tb:TS}{pos:Pos}(hp:PassesOwn (model X.prog X.w) X.A X.env X.xe)(hc:X.calm=true)(hi:PI X tg iter wi)(hg:PG X tg g)(hb:PSs X body tb)
 (hs:∀x,foldedSetIterable iter X.env x=pure x:=by intro _;rfl):PS X (.For tg iter body [] pos) (HR wi g tb):=by
 intro pins s σ H D I h;refine wpAny_For (thn (hi pins s σ H _ I h) fun v s1 h1=>thn h1 fun itv s2 h2=>?_) hs;obtain ⟨it,fp,tn,J,H2,e,I2,T,st2,f2,W,⟨m0,w0⟩,turn⟩:=h2;subst e;have stat:∀{H':Hp},(∀b∈fp,H' b=none)->∀b∈fp,jh X pins H' b:=fun hn b hb=>⟨hn b hb,(f2 b hb).2⟩
 refine codeAny_forLoop_any (fun n s'=>∃i σ' H',Inv X pins σ' H' s'/\tn i s'.heap/\(∀b∈fp,H' b=none)/\W i n σ' H') ?_ m0 (zAO 0 σ H2 I2 st2 (fun b hb=>(f2 b hb).1) w0);rintro n s3 ⟨i,σ3,H3,I3,st3,fr3,w3⟩;rcases turn i n σ3 H3 w3 with ⟨stop,qn⟩ | ⟨go,N,hN,step⟩
 ·refine wpAny_passesOwn hp (thn (T.done X rfl rfl rfl hc i pins s3 σ3 H3 X.xe I3 (stat fr3) st3 stop) fun r s4 ⟨hr,I4⟩=>?_);subst hr;exact wpAny_execs_nil (zAD σ3 H3 I4 qn)
 ·refine wpAny_passesOwn hp (thn (T.item X rfl rfl rfl hc i pins s3 σ3 H3 X.xe I3 (stat fr3) st3 go) fun r s4 ⟨u,hr,h4⟩=>?_);subst hr;refine wpAny_passesOwn hp (thn h4 fun _ s5 hhx=>?_);obtain ⟨x,H5,I5,r5,y5,st5,fr5⟩:=hhx;have I5':=I5.pinned (stat fr5) (T.obj _ _ st5);refine wpAny_passesOwn hp (thn (hg _ s5 σ3 H5 x u _ I5' r5 (step x H5 y5)) fun _ s6 hhx=>?_);obtain ⟨σ6,H6,I6,q6⟩:=hhx;refine wpAny_passesOwn hp (thn (hb _ s6 σ6 H6 _ I6 q6) fun f s7 q7=>?_);have again:∀{σ7:St} {H7:Hp},Inv X (pins++gI fp s5.heap) σ7 H7 s7->N σ7 H7->∃m,m<n/\∃i σ' H',Inv X pins σ' H' s7/\tn i s7.heap/\(∀b∈fp,H' b=none)/\W i m σ' H':=fun {σ7 H7} I7 n7=>by obtain ⟨m',hm,w7⟩:=hN σ7 H7 n7;refine zn m' hm (zAO (i+1) σ7 H7 I7.unpinned (T.keep _ _ _ st5 fun b hb o e=>(I7.pin (b,o) (d5 _ (d5 _ (cL hb e)))).1) (fun b hb=>?_) w7);obtain ⟨o,e,d⟩:=T.obj _ _ st5 b hb;exact (I7.pin (b,o) (d5 _ (d5 _ (cL hb e)))).2.1
  cases f with
  |next=>obtain ⟨σ7,H7,I7,n7⟩:=q7;exact again I7 n7
  |cont=>obtain ⟨σ7,H7,I7,n7⟩:=q7;exact again I7 n7
  |brk=>obtain ⟨σ7,H7,I7,q7⟩:=q7;exact zAD σ7 H7 I7.unpinned q7
  |ret v=>obtain ⟨x7,σ7,H7,I7,r7,q7⟩:=q7;exact zAN x7 σ7 H7 I7.unpinned r7 q7
end
theorem yj{K:W.Frag}{a:Addr}{xs:List V}{tb:TS}{D:de}(Pv:Nat->St->Hp->Prop)(h0:Pv 0 σ H)(hl:∀i σ H,i<=xs.length->Pv i σ H->SqL K H a xs)
 (hs:∀i x σ H,xs[i]?=some x->Pv i σ H->g x σ H fun σ2 H2=>tb {D with nx:=Pv (i+1),ct:=Pv (i+1),bk:=D.nx} σ2 H2) (hd:∀σ H,Pv xs.length σ H->D.nx σ H) :
 ∃W:Nat->Nat->St->Hp->Prop,(∃m,W 0 m σ H)/\∀i m σ H,W i m σ H->
   ((Itl K a).stop i H/\D.nx σ H)\/((Itl K a).go i H/\∃N:St->Hp->Prop,(∀σ' H',N σ' H'->∃m',m'<m/\W (i+1) m' σ' H')/\∀x H',(Itl K a).yld i H x H'->g x σ H' fun σ2 H2=>tb {D with nx:=N,ct:=N,bk:=D.nx} σ2 H2):=by
 refine zn (fun i m σ H=>m=xs.length-i/\i<=xs.length/\Pv i σ H) (zAC xs.length Jll (cq _) h0) ?_;rintro i m σ H ⟨rfl,hi,p⟩;have q:=hl i σ H hi p
 by_cases hlt:i<xs.length
 ·refine .inr ⟨zAD xs (xs[i]) q (by simp [hlt]),zn (Pv (i+1)) (fun σ' H' p'=>zAG (xs.length-(i+1)) Jlk rfl hlt p') fun x H' y=>?_⟩;obtain ⟨e,y⟩:=y;subst e;exact hs i x σ _ (y xs q) p
 ·have e:i=xs.length:=by omega
  subst e;exact .inl ⟨zn xs q (zq5 _),hd σ H p⟩
theorem wg{lo:Int}{n:Nat}{tb:TS}{D:de}(Pv:Nat->St->Hp->Prop)(h0:Pv 0 σ H)
 (hs:∀i σ H,i<n->Pv i σ H->g (.int (lo+i)) σ H fun σ2 H2=>tb {D with nx:=Pv (i+1),ct:=Pv (i+1),bk:=D.nx} σ2 H2) (hd:∀σ H,Pv n σ H->D.nx σ H) :
 ∃W:Nat->Nat->St->Hp->Prop,(∃m,W 0 m σ H)/\∀i m σ H,W i m σ H->
   ((Itr lo n).stop i H/\D.nx σ H)\/((Itr lo n).go i H/\∃N:St->Hp->Prop,(∀σ' H',N σ' H'->∃m',m'<m/\W (i+1) m' σ' H')/\∀x H',(Itr lo n).yld i H x H'->g x σ H' fun σ2 H2=>tb {D with nx:=N,ct:=N,bk:=D.nx} σ2 H2):=by
 refine zn (fun i m σ H=>m=n-i/\i<=n/\Pv i σ H) (zAC n Jll (cq _) h0) ?_;rintro i m σ H ⟨rfl,hi,p⟩
 by_cases hlt:i<n
 ·refine .inr ⟨hlt,zn (Pv (i+1)) (fun σ' H' p'=>zAG (n-(i+1)) Jlk rfl hlt p') fun x H' y=>?_⟩;obtain ⟨e,y⟩:=y;subst e y;exact hs i σ _ hlt p
 ·have e:i=n:=by omega
  subst e;exact .inl ⟨zq5 _,hd σ H p⟩
end L2
namespace L2
abbrev R2:=V->V->Hp->VK->Prop
def OpR(X:Cx)(f:Value->Value->Sem Value)(r:R2):Prop:=
 ∀(pins:List (Addr×Obj)) (s:Shared) (σ:St) (H:Hp) (x y:V) (v u:Value) (Q:VK),Inv X pins σ H s->RelV x v->RelV y u->r x y H Q->
  wpAny (model X.prog X.w) X.A (f v u) (EP X pins σ Q) X.xe s
def UnR(X:Cx)(f:Value->Sem Value)(r:V->Hp->VK->Prop):Prop:=
 ∀(pins:List (Addr×Obj)) (s:Shared) (σ:St) (H:Hp) (x:V) (v:Value) (Q:VK),Inv X pins σ H s->RelV x v->r x H Q->
  wpAny (model X.prog X.w) X.A (f v) (EP X pins σ Q) X.xe s
def dP(X:Cx)(f:Value)(r:List V->Hp->VK->Prop):Prop:=
 ∀(pins:List (Addr×Obj)) (s:Shared) (σ:St) (H:Hp) (xs:List V) (us:List Value) (Q:VK),Inv X pins σ H s->Vals xs us->r xs H Q->
  wpAny (model X.prog X.w) X.A (call f us) (EP X pins σ Q) X.xe s
def JT(X:Cx)(r:V->Hp->(Bool->Hp->Prop)->Prop):Prop:=
 ∀(pins:List (Addr×Obj)) (s:Shared) (σ:St) (H:Hp) (x:V) (v:Value) (Q:Bool->Hp->Prop),Inv X pins σ H s->RelV x v->r x H Q->
  wpAny (model X.prog X.w) X.A (truthy v) (TP X pins σ Q) X.xe s
def tOp(r:R2)(ta tb:TE):TE:=fun σ H Q=>ta σ H fun x H1=>tb σ H1 fun y H2=>r x y H2 Q
def tUn(r:V->Hp->VK->Prop)(ta:TE):TE:=fun σ H Q=>ta σ H fun x H1=>r x H1 Q
def rI(C:Int->Int->Prop)(g:Int->Int->V):R2:=fun x y H Q=>∃i j,x=.int i/\y=.int j/\C i j/\Q (g i j) H
def rI0(g:Int->Int->V):R2:=fun x y H Q=>∃i j,x=.int i/\y=.int j/\Q (g i j) H
def rU(g:Int->V):V->Hp->VK->Prop:=fun x H Q=>∃i,x=.int i/\Q (g i) H
section
variable {X:Cx} {a b c:Expr} {ta tb tc:TE} {pos:Pos}
theorem F6(ha:PE X a ta)(hb:PE X b tb){pins:List (Addr×Obj)}{s:Shared}{σ:St}{H:Hp}{R:V->V->Hp->Prop}(I:Inv X pins σ H s)
  (h:ta σ H fun x H1=>tb σ H1 fun y H2=>R x y H2) {Q:Value->Shared->Prop} {f:Value->Value->Sem Value}
  (hf:∀v u s2 x y H2,Inv X pins σ H2 s2->RelV x v->RelV y u->R x y H2->wpAny (model X.prog X.w) X.A (f v u) Q X.xe s2) :
  wpAny (model X.prog X.w) X.A (eval a X.env) (fun v s₁=>wpAny (model X.prog X.w) X.A (eval b X.env) (fun u s₂=>wpAny (model X.prog X.w) X.A (f v u) Q X.xe s₂) X.xe s₁) X.xe s:=by
 refine thn (ha pins s σ H _ I h) fun v s1 hhx=>?_;obtain ⟨x,H1,I1,r1,q1⟩:=hhx;refine thn (hb pins s1 σ H1 _ I1 q1) fun u s2 hhx=>?_;obtain ⟨y,H2,I2,r2,q2⟩:=hhx;exact hf v u s2 x y H2 I2 r1 r2 q2
theorem opI{f:Value->Value->Sem Value}{C:Int->Int->Prop}{g:Int->Int->Int}
  (rule:∀(i j:Int)(t u:Tok)(s:Shared)(Q:Value->Shared->Prop)(E:Value->Shared->Prop),C i j->Q (.int (g i j) s.toks) {s with toks:=s.toks+1}->wpAny (model X.prog X.w) X.A (f (.int i t) (.int j u)) Q E s) :
  OpR X f (rI C fun i j=>.int (g i j)):=by
 intro pins s σ H x y v u Q I rx ry h;obtain ⟨i,j,rfl,rfl,hc,q⟩:=h;obtain ⟨t,rfl⟩:=rx;obtain ⟨t',rfl⟩:=ry;exact rule i j t t' s _ _ hc (zAA (.int (g i j)) H (I.tok _) ⟨_,rfl⟩ q)
theorem z7{f:Value->Value->Sem Value}{g:Int->Int->Int}
  (rule:∀(i j:Int)(t u:Tok)(s:Shared)(Q:Value->Shared->Prop)(E:Value->Shared->Prop),Q (.int (g i j) s.toks) {s with toks:=s.toks+1}->wpAny (model X.prog X.w) X.A (f (.int i t) (.int j u)) Q E s) :
  OpR X f (rI0 fun i j=>.int (g i j)):=by
 intro pins s σ H x y v u Q I rx ry h;obtain ⟨i,j,rfl,rfl,q⟩:=h;obtain ⟨t,rfl⟩:=rx;obtain ⟨t',rfl⟩:=ry;exact rule i j t t' s _ _ (zAA (.int (g i j)) H (I.tok _) ⟨_,rfl⟩ q)
theorem FJ{f:Value->Value->Sem Value}{g:Int->Int->Bool}
  (rule:∀(i j:Int)(t u:Tok)(s:Shared)(Q:Value->Shared->Prop)(E:Value->Shared->Prop),Q (.bool (g i j)) s->wpAny (model X.prog X.w) X.A (f (.int i t) (.int j u)) Q E s) :
  OpR X f (rI0 fun i j=>.bl (g i j)):=by
 intro pins s σ H x y v u Q I rx ry h;obtain ⟨i,j,rfl,rfl,q⟩:=h;obtain ⟨t,rfl⟩:=rx;obtain ⟨t',rfl⟩:=ry;exact rule i j t t' s _ _ (zAA (.bl (g i j)) H I rfl q)
def vK(i j:Int):Prop:=0<=j/\j<=1000000/\i.natAbs<2 ^ 64
def CMul(i j:Int):Prop:=(-(2 ^ 64)<i/\i<2 ^ 64)\/(-(2 ^ 64)<j/\j<2 ^ 64)
theorem CMul.ok{i j:Int}(h:CMul i j):IntMulOk i j:=by
 rcases h with ⟨h1,h2⟩ | ⟨h1,h2⟩
 ·exact .of_left (intBits_le_64 h1 h2)
 ·exact .of_right (intBits_le_64 h1 h2)
theorem FK:OpR X (binaryOp .Add) (rI0 fun i j=>.int (i+j)):=z7 fun _ _ _ _ _ _ _ q=>add_int q
theorem FV:OpR X (binaryOp .Sub) (rI0 fun i j=>.int (i-j)):=z7 fun _ _ _ _ _ _ _ q=>sub_int q
theorem FQ:OpR X (binaryOp .Mult) (rI CMul fun i j=>.int (i * j)):=opI fun _ _ _ _ _ _ _ hc q=>mul_int q hc.ok
theorem FN:OpR X (binaryOp .Mod) (rI (fun _ j=>0<j) fun i j=>.int (i % j)):=opI fun i j _ _ _ _ _ hc q=>by have h1:(0:Int)<j:=hc;exact mod_int' Jlk (by rw [Int.fmod_eq_emod_of_nonneg i Jlk];exact q)
theorem FT:OpR X (binaryOp .Pow) (rI vK fun i j=>.int (i ^ j.toNat)):=opI fun _ _ _ _ _ _ _ hc q=>pow_int_small hc.1 hc.2.1 hc.2.2 q
theorem FU:OpR X (binaryOp .LShift) (rI vK fun i j=>.int (i * 2 ^ j.toNat)):=opI fun _ _ _ _ _ _ _ hc q=>lshift_int_small hc.1 hc.2.1 hc.2.2 q
theorem FM:OpR X (binaryOp .BitAnd) (rI0 fun i j=>.int (Builtin.bitAnd i j)):=z7 fun _ _ _ _ _ _ _ q=>and_int q
theorem IK:OpR X (binaryOp .BitOr) (rI0 fun i j=>.int (Builtin.bitOr i j)):=z7 fun _ _ _ _ _ _ _ q=>or_int q
theorem FY:OpR X (binaryOp .BitXor) (rI0 fun i j=>.int (Builtin.bitXor i j)):=z7 fun _ _ _ _ _ _ _ q=>xor_int q
theorem unI{f:Value->Sem Value}{g:Int->Int}
  (rule:∀(i:Int)(t:Tok)(s:Shared)(Q:Value->Shared->Prop)(E:Value->Shared->Prop),Q (.int (g i) s.toks) {s with toks:=s.toks+1}->wpAny (model X.prog X.w) X.A (f (.int i t)) Q E s) :
  UnR X f (rU fun i=>.int (g i)):=by
 intro pins s σ H x v Q I rx h;obtain ⟨i,rfl,q⟩:=h;obtain ⟨t,rfl⟩:=rx;exact rule i t s _ _ (zAA (.int (g i)) H (I.tok _) ⟨_,rfl⟩ q)
theorem HY:UnR X (unaryOp .USub) (rU fun i=>.int (-i)):=unI fun _ _ _ _ _ q=>neg_int q
end
def xc:V->V->Bool
 | .non,.non=>true | .non,.int _=>true | .int _,.non=>true | .non,.bl _=>true | .bl _,.non=>true | .non,.str _=>true | .str _,.non=>true
 | .int _,.int _=>true | .bl _,.bl _=>true | .str _,.str _=>true | .byt _,.byt _=>true
 | .int _,.str _=>true | .str _,.int _=>true | .bl _,.str _=>true | .str _,.bl _=>true
 |_,_=>false
def rEq:R2:=fun x y H Q=>xc x y=true/\Q (.bl (decide (x=y))) H
def rNe:R2:=fun x y H Q=>xc x y=true/\Q (.bl (! decide (x=y))) H
theorem tY{i j:Int}:decide (V.int i=V.int j)=(i==j):=by rw [iX];simp
theorem y8{i j:Bool}:decide (V.bl i=V.bl j)=(i==j):=by rw [iX];simp
theorem tZ{i j:Str}:decide (V.str i=V.str j)=(i==j):=by rw [iX];simp
theorem tX{i j:Array UInt8}:decide (V.byt i=V.byt j)=(i.toList==j.toList):=by
 rw [iX]
 cases i
 cases j
 simp
section
variable {X:Cx} {a b c:Expr} {ta tb tc:TE} {pos:Pos}
theorem bg{pins:List (Addr×Obj)}{σ:St}{H:Hp}{s:Shared}{Q:VK}{k k':Bool}(I:Inv X pins σ H s)(q:Q (.bl k) H)(e:k=k'):EP X pins σ Q (.bool k') s:=by subst e;exact zAA (.bl k) H I rfl q
theorem aT:OpR X (compareOp .Eq) rEq:=by
 intro pins s σ H x y v u Q I rx ry h;obtain ⟨hs,q⟩:=h
 cases x with
 |non=>
  cases rx
  cases y with
  |non=>cases ry;exact PySem.EqNone.eq_none_none (bg I q Jll)
  |bl j=>cases ry;exact PySem.EqNone.eq_none_bool (bg I q Jll)
  |int j=>obtain ⟨t',rfl⟩:=ry;exact PySem.EqNone.eq_none_int (bg I q Jll)
  |str j=>obtain ⟨t',rfl⟩:=ry;exact PySem.EqNone.eq_none_str (bg I q Jll)
  |_=>exact absurd (show false=true from hs) bw
 |bl i=>
  cases rx
  cases y with
  |non=>cases ry;exact PySem.EqNone.eq_bool_none (bg I q Jll)
  |bl j=>cases ry;exact eq_bool (bg I q y8)
  |str j=>obtain ⟨t',rfl⟩:=ry;exact PySem.EqMixed.eq_bool_str (bg I q Jll)
  |_=>exact absurd (show false=true from hs) bw
 |int i=>
  obtain ⟨t,rfl⟩:=rx
  cases y with
  |non=>cases ry;exact PySem.EqNone.eq_int_none (bg I q Jll)
  |int j=>obtain ⟨t',rfl⟩:=ry;exact eq_int (bg I q tY)
  |str j=>obtain ⟨t',rfl⟩:=ry;exact PySem.EqMixed.eq_int_str (bg I q Jll)
  |_=>exact absurd (show false=true from hs) bw
 |str i=>
  obtain ⟨t,rfl⟩:=rx
  cases y with
  |non=>cases ry;exact PySem.EqNone.eq_str_none (bg I q Jll)
  |bl j=>cases ry;exact PySem.EqMixed.eq_str_bool (bg I q Jll)
  |int j=>obtain ⟨t',rfl⟩:=ry;exact PySem.EqMixed.eq_str_int (bg I q Jll)
  |str j=>obtain ⟨t',rfl⟩:=ry;exact eq_str (bg I q tZ)
  |_=>exact absurd (show false=true from hs) bw
 |byt i=>
  obtain ⟨t,rfl⟩:=rx
  cases y with
  |byt j=>obtain ⟨t',rfl⟩:=ry;exact W.eq_bytes (bg I q tX)
  |_=>exact absurd (show false=true from hs) bw
 |_=>cases y<;>exact absurd (show false=true from hs) bw
theorem Dx:OpR X (compareOp .NotEq) rNe:=by
 intro pins s σ H x y v u Q I rx ry h;obtain ⟨hs,q⟩:=h
 cases x with
 |non=>
  cases rx
  cases y with
  |non=>cases ry;exact PySem.EqNone.ne_none_none (bg I q Jll)
  |bl j=>cases ry;exact PySem.EqNone.ne_none_bool (bg I q Jll)
  |int j=>obtain ⟨t',rfl⟩:=ry;exact PySem.EqNone.ne_none_int (bg I q Jll)
  |str j=>obtain ⟨t',rfl⟩:=ry;exact PySem.EqNone.ne_none_str (bg I q Jll)
  |_=>exact absurd (show false=true from hs) bw
 |bl i=>
  cases rx
  cases y with
  |non=>cases ry;exact PySem.EqNone.ne_bool_none (bg I q Jll)
  |bl j=>cases ry;exact ne_bool (bg I q (congrArg not y8))
  |str j=>obtain ⟨t',rfl⟩:=ry;exact PySem.EqMixed.ne_bool_str (bg I q Jll)
  |_=>exact absurd (show false=true from hs) bw
 |int i=>
  obtain ⟨t,rfl⟩:=rx
  cases y with
  |non=>cases ry;exact PySem.EqNone.ne_int_none (bg I q Jll)
  |int j=>obtain ⟨t',rfl⟩:=ry;exact ne_int (bg I q (congrArg not tY))
  |str j=>obtain ⟨t',rfl⟩:=ry;exact PySem.EqMixed.ne_int_str (bg I q Jll)
  |_=>exact absurd (show false=true from hs) bw
 |str i=>
  obtain ⟨t,rfl⟩:=rx
  cases y with
  |non=>cases ry;exact PySem.EqNone.ne_str_none (bg I q Jll)
  |bl j=>cases ry;exact PySem.EqMixed.ne_str_bool (bg I q Jll)
  |int j=>obtain ⟨t',rfl⟩:=ry;exact PySem.EqMixed.ne_str_int (bg I q Jll)
  |str j=>obtain ⟨t',rfl⟩:=ry;exact ne_str (bg I q (congrArg not tZ))
  |_=>exact absurd (show false=true from hs) bw
 |byt i=>
  obtain ⟨t,rfl⟩:=rx
  cases y with
  |byt j=>obtain ⟨t',rfl⟩:=ry;exact W.ne_bytes (bg I q (congrArg not tX))
  |_=>exact absurd (show false=true from hs) bw
 |_=>cases y<;>exact absurd (show false=true from hs) bw
theorem IJ:OpR X (compareOp .Lt) (rI0 fun i j=>.bl (decide (i<j))):=FJ fun _ _ _ _ _ _ _ q=>lt_int q
theorem II:OpR X (compareOp .Gt) (rI0 fun i j=>.bl (decide (j<i))):=FJ fun _ _ _ _ _ _ _ q=>gt_int q
theorem IH:OpR X (compareOp .GtE) (rI0 fun i j=>.bl (decide (j<=i))):=FJ fun _ _ _ _ _ _ _ q=>ge_int q
theorem se:OpR X (compareOp .Is) (fun x y H Q=>y=.non/\Q (.bl (decide (x=.non))) H):=by
 intro pins s σ H x y v u Q I rx ry h;obtain ⟨rfl,q⟩:=h
 cases ry
 refine is_none_gen (bg I q ?_)
 cases x<;>first
  | (cases rx;rfl)
  | (obtain ⟨t,rfl⟩:=rx;rfl)
theorem gZ:OpR X (compareOp .IsNot) (fun x y H Q=>y=.non/\Q (.bl (! decide (x=.non))) H):=by
 intro pins s σ H x y v u Q I rx ry h;obtain ⟨rfl,q⟩:=h
 cases ry
 refine isnot_none_gen (bg I q ?_)
 cases x<;>first
  | (cases rx;rfl)
  | (obtain ⟨t,rfl⟩:=rx;rfl)
theorem az(b:Expr){op:CmpOp}(h:op≠.In:=by decide)(h2:op≠.NotIn:=by decide):behindInMarks op b=false:=by
 have e1:(op==CmpOp.In)=false:=by cases op<;>first | rfl | exact absurd rfl h
 have e2:(op==CmpOp.NotIn)=false:=by cases op<;>first | rfl | exact absurd rfl h2
 cases b<;>simp [behindInMarks,e1,e2]
def EN(t:TE):TT:=fun σ H Q=>t σ H fun x H'=>∃k,x=.bl k/\Q k H'
def F4(K:W.Frag)(x:V)(H:Hp)(k:Bool):Prop:=
 match x with
 | .non=>k=false
 | .bl b=>k=b
 | .int i=>k=(i != 0)
 | .str y=>y.length<=sizeLine/\k=((y.length:Int) != 0)
 | .byt y=>y.size<=sizeLine/\k=((y.size:Int) != 0)
 | .ref p=>(∃xs,SqL K H p xs/\k=! xs.isEmpty)\/(∃xs,SqT K H p xs/\k=! xs.isEmpty)\/∃kvs,H p=some (.dK kvs)/\k=! kvs.isEmpty
 |_=>False
theorem rP{κ:Type}{kvs:List (κ×V)}{vs:List (κ×Value)}(r:KV kvs vs):(! vs.isEmpty)=! kvs.isEmpty:=by cases r<;>rfl
theorem jS{xs:List V}{its:List Value}(r:Vals xs its):(! its.toArray.isEmpty)=! xs.isEmpty:=by cases r<;>simp
theorem iL:(sizeLine:Nat)<2 ^ 63:=by rw [zq8];decide
theorem HX:JT X (fun x H Q=>∃k,F4 X.K x H k/\Q k H):=by
 intro pins s σ H x v Q I rx h;obtain ⟨k,e,q⟩:=h;have hl:=iL;have hs:sizeLine=16777216:=zq8
 cases x with
 |non=>
  cases rx
  have e':k=false:=e;subst e';exact truthy_none (zn H I q)
 |bl b=>
  cases rx
  have e':k=b:=e;subst e';exact wpAny_truthy_bool (zn H I q)
 |int i=>
  obtain ⟨t,rfl⟩:=rx;have e':k=(i != 0):=e;subst e';exact PySem.P.truthy_int (zn H I q)
 |str y=>
  obtain ⟨t,rfl⟩:=rx;obtain ⟨hy,e'⟩:y.length<=sizeLine/\k=((y.length:Int) != 0):=e;subst e';exact PySem.P.truthy_str Jlk (zn H (I.tok _) q)
 |byt y=>
  obtain ⟨t,rfl⟩:=rx;obtain ⟨hy,e'⟩:y.size<=sizeLine/\k=((y.size:Int) != 0):=e;subst e';exact W.truthy_bytes Jlk (zn H (I.tok _) q)
 |ref p=>
  cases rx
  have e':(∃xs,SqL X.K H p xs/\k=! xs.isEmpty)\/(∃xs,SqT X.K H p xs/\k=! xs.isEmpty)\/∃kvs,H p=some (.dK kvs)/\k=! kvs.isEmpty:=e;rcases e' with ⟨xs,hx,e'⟩ | ⟨xs,hx,e'⟩ | ⟨kvs,hx,e'⟩
  ·subst e';obtain ⟨its,r,pl,hz⟩:=I.list hx;have hlen:=r.length;exact wpAny_truthy_list pl.isList (by simp only [List.size_toArray];omega) (zn H (I.tok _) (by rw [jS r];exact q))
  ·subst e';obtain ⟨its,r,pl,hz⟩:=I.tuple hx;have hlen:=r.length;exact truthy_tuple pl (by simp only [List.size_toArray];omega) (zn H (I.tok _) (by rw [jS r];exact q))
  ·subst e';obtain ⟨hz,hS,vs,r,m⟩:kvs.length<=sizeLine/\(p==sysModules)=false/\∃vs,KV kvs vs/\s.heap.DictOf (bi X.prog X.w) p vs:=I.hok p _ hx;have hlen:kvs.length=vs.length:=Paired.length r;exact wpAny_truthy_dict hS m Jlk (zn H (I.tok _) (by rw [rP r];exact q))
 |_=>exact (show False from e).elim
theorem zx(ha:PE X a ta)(he:∀whole,isTrue a X.env whole=(do let v <- whole;standAt a.pos;holding [v] (truthy v))):
  PT X a (fun σ H Q=>ta σ H fun x H'=>∃k,F4 X.K x H' k/\Q k H'):=by
 intro pins s σ H Q I h;exact isTrue_plain (thn (ha pins s σ H _ I h) fun v s1 ⟨x,H1,I1,r1,q1⟩=>HX pins s1 σ H1 x v Q I1 r1 q1) (he _)
theorem sd:OpR X (binaryOp .Add) (fun x y H Q=>∃i j,x=.str i/\y=.str j/\i.length+j.length<=sizeLine/\Q (.str (i++j)) H):=by intro pins s σ H x y v u Q I rx ry h;obtain ⟨i,j,rfl,rfl,hz,q⟩:=h;obtain ⟨t,rfl⟩:=rx;obtain ⟨t',rfl⟩:=ry;exact add_str (fun t' tk=>zAA (.str (i++j)) H (I.tok _) ⟨_,rfl⟩ q) hz
theorem fH{x:V}{us:List Value}(r:Vals [x] us):∃u,us=[u]/\RelV x u:=by
 cases r with
 |cons r1 r2=>cases r2;exact zn _ rfl r1
theorem vv{x y:V}{us:List Value}(r:Vals [x,y] us):∃u w',us=[u,w']/\RelV x u/\RelV y w':=by
 cases r with
 |cons r1 r2=>
  cases r2 with
  |cons r3 r4=>cases r4;exact zAA _ _ rfl r1 r3
theorem vT(hc:X.calm=true):dP X (.builtin "max") (fun xs H Q=>∃i j,xs=[.int i,.int j]/\Q (.int (if j>i then j else i)) H):=by
 intro pins s σ H xs us Q I r h;obtain ⟨i,j,rfl,q⟩:=h;obtain ⟨u,w',rfl,⟨t,rfl⟩,⟨t',rfl⟩⟩:=vv r;refine max_two_ints (I.ok.hd hc) fun h' tk k=>zAA _ H (I.kept k) ?_ q
 by_cases hj:j>i
 ·rw [zq1 hj,zq1 hj];exact ⟨_,rfl⟩
 ·rw [zq0 hj,zq0 hj];exact ⟨_,rfl⟩
theorem fM:dP X (.type "int") (fun xs H Q=>(∃i,xs=[.int i]/\Q (.int i) H)\/∃k,xs=[.bl k]/\Q (.int (if k then 1 else 0)) H):=by
 intro pins s σ H xs us Q I r h;rcases h with ⟨i,rfl,q⟩ | ⟨k,rfl,q⟩
 ·obtain ⟨u,rfl,t,rfl⟩:=fH r;exact call_int_int (zAA (.int i) H I ⟨_,rfl⟩ q)
 ·obtain ⟨u,rfl,r1⟩:=fH r
  cases r1
  exact call_int_bool (zAA (.int (if k then 1 else 0)) H (I.tok _) ⟨_,rfl⟩ q)
end
end L2
namespace L2
structure ObjM(h:Heap)(x dx C:Addr)(mA:Str->Option Value):Prop where
 obj:h.get? x=some (W.instObj C dx)
 ns:h.Ns1 dx mA
 ne:dx≠x
theorem wC{h:Heap}{dx:Addr}{mA:Str->Option Value}(n:h.Ns1 dx mA):∃od,h.get? dx=some od/\∀name,W.lookIn name od=some (mA name):=by
 obtain ⟨o,es,ep,ho,hd,hk,_,hm⟩:=n;refine zn o ho fun name=>?_;have e:=hm name;unfold nsFind findBy at e;rw [<- Array.find?_toList] at e;unfold W.lookIn;rw [hd];dsimp only
 split
 ·rename_i y q
  rw [q] at e;exact congrArg some e
 ·rename_i q
  rw [q] at e;have a:es.toList.any (·.refKey)=false:=by rw [List.any_eq_false];intro y hy;obtain ⟨z,t,hkey⟩:=hk y (Array.mem_toList_iff.mp hy);simp [DictEntry.refKey,hkey]
  have a':¬es.toList.any (·.refKey)=true:=by rw [a];exact bw
  rw [zq0 a'];exact congrArg some e
theorem ObjM.look{h:Heap}{x dx C:Addr}{mA:Str->Option Value}(I:ObjM h x dx C mA):∃od,W.InstAt h x (W.instObj C dx) C (some od)/\∀name,W.lookIn name od=some (mA name):=
 let ⟨od,ho,hl⟩:=wC I.ns
 (zn od ⟨I.obj,rfl,rfl,ho⟩ hl)
section
variable {prog:Program} {w:World} {A:Around} {E:Value->Shared->Prop} {s:Shared} {K:W.Frag} {x dx C f:Addr} {mA:Str->Option Value} {name:Str} {v:Value}
theorem C4{expr:Bool}{Q:Value->Shared->Prop}(X:K.In s.heap)(I:ObjM s.heap x dx C mA)(hg:W.plainGet K C name=true)(hh:W.hasDictIn K C=true)
  (ha:W.findIn K (.ref C) name=some none) (hv:mA name=some v) (hv':W.handedIn v=true) (h:Q v {s with toks:=s.toks+1}) :
  wpAny (model prog w) A (getAttr (.ref x) name expr) Q E s:=by
 obtain ⟨od,J,hl⟩:=I.look;exact W.get_value X J (W.plainGet_of hg).1 (W.findObj_own hh ha rfl (by rw [hl,hv])) hv' h
theorem yp{pl:Sem Bool}{Q:Value×List Value->Shared->Prop}(X:K.In s.heap)(I:ObjM s.heap x dx C mA)(hg:W.plainGet K C name=true)
  (hf:W.findIn K (.ref C) name=some (some (.ref f))) (ht:W.isFn K (.ref f)=true) (hv:mA name=none) (h:Q (.ref f,[.ref x]) s) :
  wpAny (model prog w) A (getMethod (.ref x) name pl) Q E s:=by
 obtain ⟨od,J,hl⟩:=I.look;exact W.method_fn X J (W.plainGet_of hg).1 (W.plainGet_of hg).2 hf (zq68.mp ht) (by show (W.lookIn name od).map (·.isSome)=some false;rw [hl,hv];rfl) h
theorem Dc{ns:List Str}{Q:Unit->Shared->Prop}(X:K.In s.heap)(I:ObjM s.heap x dx C mA)
  (hs:W.findIn K (.ref C) "__setattr__"=some (some (.builtin "object.__setattr__"))) (hp:W.plainOver K C=true) (ht:W.takerIn K C name=some none) (hh:W.hasDictIn K C=true)
  (hw:PySem.Within mA ns) (hsz:ns.length<=sizeLine)
  (h:∀h',ObjM h' x dx C (fun y=>if y=name then some v else mA y)->Heap.SameBut dx s.heap h'->Q () {s with heap:=h',toks:=s.toks+2}) :
  wpAny (model prog w) A (setAttr (.ref x) name v) Q E s:=by
 obtain ⟨od,J,hl⟩:=I.look;refine W.set_plain X J hs (W.osa_open (s:={s with toks:=s.toks+1}) (r:=none) X J hp ht fun b=>?_);obtain ⟨cd,hc,hd'⟩:=W.any_some hh;have hx:s.heap.get? x=some ⟨.ref C,some dx,.plain,#[]⟩:=I.obj;refine zq2 (zq4 (zq2 (zq2 (wpAny_loadPart hx (zq2 (W.Looks.here (s:={s with toks:=s.toks+1}) (W.looks_clsIn X hc) ?_))))));rw [hd'];refine zq4 (a:=some dx) (zq2 (zq4 (zq2 ?_)));refine wpAny_nsSet1 (s:={s with toks:=s.toks+1}) I.ns fun h' hn2 hs2=>?_;obtain ⟨oD,esD,epD,hoD,hdD,hcD⟩:=hn2.count (PySem.Within.cons name v hw);refine zq2 (wpAny_lookBehind hoD (by rw [hdD];exact pastItsLine_dict (dI hcD (by rw [cW];omega))) ?_);exact zq4 (h _ ⟨(hs2.2 _ (Ne.symm I.ne)).trans I.obj,hn2,I.ne⟩ hs2)
theorem yy{R:Result->Shared->Prop}{vs:List Value}{kw:List (Str×Value)}(X:K.In s.heap)(hm:W.makesIn K C=true)
  (hi:W.findIn K (.ref C) "__init__"=some (some (.ref f))) (hf:W.typeIn K (.ref f)=some (.type "function"))
  (h:codeAny (model prog w) (A.under (.builtin "type.__call__" ⟨.ref C::vs,kw⟩)) (.call (.ref f) ⟨.ref (s.heap.objs.size+1)::vs,kw⟩) (W.InitBack (s.heap.objs.size+1) R)
   {s with heap:=(s.heap.push W.emptyDict).push (W.instObj C s.heap.objs.size)}) :
  codeAny (model prog w) A (.call (.ref C) ⟨vs,kw⟩) R s:=by
 obtain ⟨hh,g,d,t,os⟩:=s;exact W.make_core (W.makes_of X hm) (W.looks_findIn X hi) (fun self=>W.bind_fn X self hf) (.inl rfl) h
end
def cU(f:Str)(v:V):List (Str×V)->List (Str×V)
 | []=>[(f,v)]
 | (g,x)::r=>if g=f then (g,v)::r else (g,x)::cU f v r
theorem ja(f g:Str)(v:V):∀fs:List (Str×V),(cU f v fs).lookup g=if g=f then some v else fs.lookup g
 | []=>by
  show List.lookup g [(f,v)]=_
  by_cases h:g=f
  ·have hb:(g==f)=true:=zq68.mpr h;simp only [List.lookup,hb,if_pos h]
  ·have hb:(g==f)=false:=beq_eq_false_iff_ne.mpr h;simp only [List.lookup,hb,if_neg h]
 | (k,x)::r=>by
  have ih:=ja f g v r;rw [show cU f v ((k,x)::r)=(if k=f then (k,v)::r else (k,x)::cU f v r) from rfl]
  by_cases hk:k=f
  ·rw [zq1 hk]
   by_cases h:g=k
   ·have hb:(g==k)=true:=zq68.mpr h;simp only [List.lookup,hb,if_pos (h.trans hk)]
   ·have hb:(g==k)=false:=beq_eq_false_iff_ne.mpr h;simp only [List.lookup,hb,if_neg (fun e:g=f=>h (e.trans hk.symm))]
  ·rw [zq0 hk]
   by_cases h:g=k
   ·have hb:(g==k)=true:=zq68.mpr h;simp only [List.lookup,hb,if_neg (fun e:g=f=>hk (h.symm.trans e))]
   ·have hb:(g==k)=false:=beq_eq_false_iff_ne.mpr h;simp only [List.lookup,hb];exact ih
theorem iJ(f:Str)(v:V):∀fs:List (Str×V),f∈(cU f v fs).map (·.1)/\∀g,g∈fs.map (·.1)->g∈(cU f v fs).map (·.1)
 | []=>⟨by simp [cU],fun g h=>by simp at h⟩
 | (k,x)::r=>by
  obtain ⟨i1,i2⟩:=iJ f v r;rw [show cU f v ((k,x)::r)=(if k=f then (k,v)::r else (k,x)::cU f v r) from rfl]
  by_cases hk:k=f
  ·rw [zq1 hk];subst hk;exact ⟨Jll,fun g h=>by simpa using h⟩
  ·rw [zq0 hk];refine ⟨?_,fun g h=>?_⟩
   ·rw [ce];exact zq9 _ i1
   ·rw [ce] at h ⊢;rcases zq12.mp h with e | e
    ·exact zq12.mpr (.inl e)
    ·exact zq9 _ (i2 g e)
theorem j9(f:Str)(v:V):∀fs:List (Str×V),(cU f v fs).length<=fs.length+1
 | []=>by simp [cU]
 | (k,x)::r=>by
  have ih:=j9 f v r;rw [show cU f v ((k,x)::r)=(if k=f then (k,v)::r else (k,x)::cU f v r) from rfl]
  by_cases hk:k=f
  ·rw [zq1 hk,cW,cW];omega
  ·rw [zq0 hk,cW,cW];omega
theorem RelO.some_of{v:V}{o:Option Value}(r:RelO (some v) o):∃u,o=some u/\RelV v u:=by
 cases o with
 |none=>exact (show False from r).elim
 |some u=>exact zn u rfl r
theorem RelO.none_of{o:Option Value}(r:RelO none o):o=none:=by
 cases o with
 |none=>rfl
 |some u=>exact (show False from r).elim
theorem wk{v:V}{u:Value}(r:RelV v u):W.handedIn u=true:=by
 cases v with
 |non=>cases (show u=Value.none from r);rfl
 |bl b=>cases (show u=Value.bool b from r);rfl
 |int i=>obtain ⟨t,e⟩:=(show ∃t,u=Value.int i t from r);cases e;rfl
 |str x=>obtain ⟨t,e⟩:=(show ∃t,u=Value.str x t from r);cases e;rfl
 |byt b=>obtain ⟨t,e⟩:=(show ∃t,u=Value.bytes b t from r);cases e;rfl
 |flt b=>obtain ⟨t,e⟩:=(show ∃t,u=Value.float b t from r);cases e;rfl
 |ref a=>cases (show u=Value.ref a from r);rfl
 |ty n=>cases (show u=Value.type n from r);rfl
section
variable {P:Program} {w:World} {H H':Hp} {h h':Heap} {a C dx:Addr} {fs fs':List (Str×V)}
theorem mQ(hok:HOk P w H h)(e:H a=some (.ins C dx fs)):∃mA,ObjM h a dx C mA/\(∀f,RelO (fs.lookup f) (mA f))/\PySem.Within mA (fs.map (·.1))/\fs.length<=1000/\H dx=some (.own a):=by
 obtain ⟨d,z,ne,ob,mA,n,r,q⟩:=(show ObjOk P w H h a (.ins C dx fs) from hok a _ e)
 exact zAS mA ⟨ob,n,ne⟩ r q z d
end
structure Cls(K:W.Frag)(C:Addr):Prop where
 pg:W.plainGet K C Str.empty=true
 hd:W.hasDictIn K C=true
 po:W.plainOver K C=true
 sa:W.findIn K (.ref C) "__setattr__"=some (some (.builtin "object.__setattr__"))
theorem Cls.get{K:W.Frag}{C:Addr}(c:Cls K C)(f:Str):W.plainGet K C f=true:=c.pg
def NoAttr(K:W.Frag)(C:Addr)(f:Str):Prop:=W.findIn K (.ref C) f=some none
theorem NoAttr.taker{K:W.Frag}{C:Addr}{f:Str}(n:NoAttr K C f):W.takerIn K C f=some none:=by unfold W.takerIn;rw [show W.findIn K (.ref C) f=some none from n];rfl
structure vL(K:W.Frag)(C:Addr)(m:Str)(f:Addr):Prop where
 at_:W.findIn K (.ref C) m=some (some (.ref f))
 fn:W.isFn K (.ref f)=true
 kp:W.keepIn K (.ref f)=true
section
variable {X:Cx} {pins:List (Addr×Obj)} {σ:St} {H:Hp} {s:Shared} {a C dx:Addr} {fs:List (Str×V)} {f:Str} {v:V} {A:Around} {E:Value->Shared->Prop}
theorem rM{b:Bool}{Q:Value->Shared->Prop}(I:Inv X pins σ H s)(e:H a=some (.ins C dx fs))(c:Cls X.K C)(n:NoAttr X.K C f)(l:fs.lookup f=some v)
  (h:∀u s',Inv X pins σ H s'->RelV v u->Q u s'):wpAny (model X.prog X.w) A (getAttr (.ref a) f b) Q E s:=by
 obtain ⟨mA,O,r,_,_,_⟩:=mQ I.hok e;obtain ⟨u,hu,ru⟩:=RelO.some_of (v:=v) (o:=mA f) (by rw [<- l];exact r f);exact C4 I.kIn O (c.get f) c.hd n hu (wk ru) (h u _ (I.tok _) ru)
theorem gE{m:Str}{g:Addr}{pl:Sem Bool}{Q:Value×List Value->Shared->Prop}(I:Inv X pins σ H s)(e:H a=some (.ins C dx fs))(c:Cls X.K C)(k:vL X.K C m g)(l:fs.lookup m=none)
  (h:Q (.ref g,[.ref a]) s):wpAny (model X.prog X.w) A (getMethod (.ref a) m pl) Q E s:=by
 obtain ⟨mA,O,r,_,_,_⟩:=mQ I.hok e;have hn:mA m=none:=RelO.none_of (by rw [<- l];exact r m);exact yp I.kIn O (c.get m) k.at_ k.fn hn h
theorem sM{y:V}{u:Value}{Q:Unit->Shared->Prop}(I:Inv X pins σ H s)(e:H a=some (.ins C dx fs))(c:Cls X.K C)(n:NoAttr X.K C f)(hl:fs.length<1000)(ry:RelV y u)
  (h:∀s',Inv X pins σ (upd H a (.ins C dx (cU f y fs))) s'->Q () s'):wpAny (model X.prog X.w) A (setAttr (.ref a) f u) Q E s:=by
 obtain ⟨mA,O,r,wi,_,ho⟩:=mQ I.hok e;have hz:(fs.map (·.1)).length<=sizeLine:=by rw [zq3,zq8];omega
 refine Dc I.kIn O c.sa c.po n.taker c.hd wi hz fun h' O' sb=>h _ ?_;have hd:∃o,h'.get? dx=some o:=let ⟨o,_,_,e',_⟩:=O'.ns;⟨o,e'⟩;refine I.write (x:=a) (e:=dx) (by rw [e];exact True.intro) (.inr ho) (fun b q hb z=>(sb.2 b hb).trans z) hd ?_;refine zAI (by rw [ao O.ne];exact ho) ?_ O.ne O'.obj (zAC _ O'.ns (fun g=>?_) fun g hg=>?_)
 ·have:=j9 f y fs;omega
 ·show RelO ((cU f y fs).lookup g) (if g=f then some u else mA g);rw [ja]
  by_cases q:g=f
  ·rw [zq1 q,zq1 q];exact ry
  ·rw [zq0 q,zq0 q];exact r g
 ·by_cases q:g=f
  ·rw [q];exact (iJ f y fs).1
  ·refine (iJ f y fs).2 g (wi g fun z=>hg ?_);show (if g=f then some u else mA g)=none;rw [zq0 q];exact z
theorem Inv.made(I:Inv X pins σ H s):Inv X pins σ (upd (upd H s.heap.objs.size (.own (s.heap.objs.size+1))) (s.heap.objs.size+1) (.ins C s.heap.objs.size []))
  {s with heap:=(s.heap.push W.emptyDict).push (W.instObj C s.heap.objs.size)}:=by
 have e1:(s.heap.push W.emptyDict).get? s.heap.objs.size=some W.emptyDict:=du s.heap rfl;have e2:((s.heap.push W.emptyDict).push (W.instObj C s.heap.objs.size)).get? (s.heap.objs.size+1)=some (W.instObj C s.heap.objs.size):=by have:=du (s.heap.push W.emptyDict) (o:=W.instObj C s.heap.objs.size) rfl;rwa [kU] at this
 have e3:(s.heap.push W.emptyDict).Ns s.heap.objs.size (fun _=>none):=zAO W.emptyDict (#[]) _ e1 rfl (fun e he=>absurd he Jll) fun _=>rfl
 have I1:=I.laid (a:=s.heap.objs.size) (o:=.own (s.heap.objs.size+1)) (h':=s.heap.push W.emptyDict) (t':=s.toks) (fun b u q=>cc _ q) (zq5 _) ⟨_,e1⟩;refine I1.laid (a:=s.heap.objs.size+1) (o:=.ins C s.heap.objs.size []) (t':=s.toks) (fun b u q=>cc _ q) (Nat.le_of_eq (kU _ _)) ?_;have ne:s.heap.objs.size≠s.heap.objs.size+1:=cF (Bt _);refine zAI (by rw [ao ne,ac]) (cq _) ne e2 (zAC (fun _=>none) ((Heap.Ns1.of_empty e3).at fun o q=>cc _ q) (fun _=>True.intro) fun y hy=>absurd rfl hy)
theorem BH{prog:Program}{w:World}{env:Env}{e:Expr}{f:Str}{pos:Pos}{s:Shared}{Q:Value->Shared->Prop}(hb:attributeBase e f env (eval e env)=eval e env)
  (h:wpAny (model prog w) A (eval e env) (fun o s₁=>wpAny (model prog w) A (getAttr o f true) Q E s₁) E s):wpAny (model prog w) A (eval (.Attribute e f pos) env) Q E s:=
 Attribute_any_ h (by rw [arm_eval_Attribute,hb])
end
def JB(K:W.Frag)(ta:TE)(f:Str):TE:=fun σ H Q=>ta σ H fun x H1=>∃a C dx fs v,x=.ref a/\H1 a=some (.ins C dx fs)/\Cls K C/\NoAttr K C f/\fs.lookup f=some v/\Q v H1
def Jy(K:W.Frag)(ta tv:TE)(f:Str):TS:=fun D σ H=>tv σ H fun y H1=>ta σ H1 fun x H2=>∃a C dx fs,x=.ref a/\H2 a=some (.ins C dx fs)/\Cls K C/\NoAttr K C f/\fs.length<1000/\
 D.nx σ (upd H2 a (.ins C dx (cU f y fs)))
section
variable {X:Cx} {o e value:Expr} {f:Str} {pos pos' tpos:Pos} {ta tv:TE}
theorem Dw{pl:Sem Bool}{m:Str}{apos:Pos}{args:List Expr}{pins:List (Addr×Obj)}{s:Shared}{σ:St}{H:Hp}{Q:Value->Shared->Prop}{te:TE}(he:PE X e te)(I:Inv X pins σ H s)
  (h:te σ H fun x H1=>∃a C dx fs g,x=.ref a/\H1 a=some (.ins C dx fs)/\Cls X.K C/\vL X.K C m g/\fs.lookup m=none/\
   ∀s1,Inv X pins σ H1 s1->wpAny (model X.prog X.w) X.A (callWith pos (.ref g) [.ref a] (backTo pos (starEach args X.env)) (backToKw pos (keywordEach [] X.env))) Q X.xe s1)
  (ht:eval (.Call (.Attribute e m apos) args [] pos) X.env=(do
   let ov <- eval e X.env
   standAt apos.atName
   let (f,first) <- holding [ov] (getMethod ov m pl)
   callWith pos f first (backTo pos (starEach args X.env)) (backToKw pos (keywordEach [] X.env)))) :
  wpAny (model X.prog X.w) X.A (eval (.Call (.Attribute e m apos) args [] pos) X.env) Q X.xe s:=by
 refine W.methodCall_KW (pl:=pl) (thn (he pins s σ H _ I h) fun u s1 hhx=>?_) ht;obtain ⟨x,H1,I1,rx,a,C,dx,fs,g,ex,ea,c,k,l,q⟩:=hhx;subst ex;obtain rfl:u=Value.ref a:=rx;exact gE I1 ea c k l (q s1 I1)
end
section
variable {X:Cx} {pins:List (Addr×Obj)} {σ:St} {H:Hp} {s:Shared} {A:Around} {E:Value->Shared->Prop} {Q:Value->Shared->Prop} {c:Value} {b:Bool}
end
end L2
namespace L2
structure Room(k:Nat)(A:Around):Prop where
 hd:A.handled=none
 dp:A.depth+3 * k+5<recursionLimit
 un:A.units+16 * k+200<cLine
theorem Room.mono{j k:Nat}{A:Around}(r:Room k A)(h:j<=k):Room j A:=⟨r.hd,by have:=r.dp;omega,by have:=r.un;omega⟩
theorem Room.m{n m:Nat}{A:Around}(h:Room n A)(l:m<=n:=by first | decide | omega):Room m A:=h.mono l
theorem Room.deeper{k:Nat}{A:Around}(r:Room (k+1) A)(env:Env):Room k (A.deeper env):=
 ⟨r.hd,by have:=r.dp;show A.depth+1+3 * k+5<_;omega,by have:=r.un;show A.units+3+16 * k+200<_;omega⟩
theorem rQ{A:Around}{C:Addr}{us:List Value}{kw:List (Str×Value)}:(A.under (.builtin "type.__call__" ⟨.ref C::us,kw⟩)).depth=A.depth+1:=by first | rfl | simp [Around.under,Code.weight,Code.isCreation,Code.isGuard,Code.isCaller,Code.frames,Code.isFrame,guardIds]
theorem rR{A:Around}{C:Addr}{us:List Value}{kw:List (Str×Value)}:(A.under (.builtin "type.__call__" ⟨.ref C::us,kw⟩)).units=A.units+1:=by first | rfl | simp [Around.under,Code.cUnits,Code.frames,Code.isFrame]
theorem Room.make{k:Nat}{A:Around}(r:Room (k+1) A)(C:Addr)(us:List Value)(kw:List (Str×Value)):Room k (A.under (.builtin "type.__call__" ⟨.ref C::us,kw⟩)):=
 ⟨r.hd,by have:=r.dp;rw [rQ];omega,by have:=r.un;rw [rR];omega⟩
theorem Room.depth{k:Nat}{A:Around}(r:Room k A):A.depth<recursionLimit:=by have:=r.dp;omega
theorem Room.units{k:Nat}{A:Around}(r:Room k A):A.units+64<cLine:=by have:=r.un;omega
theorem Room.units0{k:Nat}{A:Around}(r:Room k A):A.units<cLine:=by have:=r.un;omega
def qB:TA:=fun _ H Q=>Q [] H
def Av(ta:TE)(tr:TA):TA:=fun σ H Q=>ta σ H fun x H1=>tr σ H1 fun xs H2=>Q (x::xs) H2
section
variable {X:Cx} {e:Expr} {es:List Expr} {te:TE} {t:TA} {pos:Pos}
theorem zd:PA X [] qB:=fun _ _ _ _ H Q I h=>Calls.spliced_nil (zAA ([]) H I .nil h)
theorem uD(ha:PE X e te)(hr:PA X es t)(hs:starEach (e::es) X.env=(false,eval e X.env)::starEach es X.env:=by rfl):PA X (e::es) (Av te t):=by intro pos pins s σ H Q I h;rw [hs];show wpAny _ _ (spliced ((false,eval e X.env)::backTo pos (starEach es X.env))) _ _ s;refine Calls.spliced_cons (thn (ha pins s σ H _ I h) fun u s1 hhx=>?_);obtain ⟨x,H1,I1,r1,q1⟩:=hhx;exact thn (hr pos pins s1 σ H1 _ I1 q1) fun us s2 ⟨xs,H2,I2,r2,q2⟩=>zAA (x::xs) H2 I2 (.cons r1 r2) q2
def JF(t:TA):TE:=fun σ H Q=>t σ H fun xs H1=>xs.length<=sizeLine/\∀p,H1 p=none->Q (.ref p) (upd H1 p (.tup xs))
def JC(t:TA):TE:=fun σ H Q=>t σ H fun xs H1=>xs.length<=sizeLine/\∀p,H1 p=none->Q (.ref p) (upd H1 p (.lst xs))
end
abbrev Sp:=List V->Hp->VK->XK->Prop
abbrev CXT:=List Env->Hp->Shared->XK->Value->Shared->Prop
structure Env0(P:Program)(w:World)(K:W.Frag)(mg:Str->Option Value)(base:Heap)(A:Around)(outer:List Env)(s:Shared)(H:Hp):Prop where
 frames:A.frames=some outer
 mod:Mod K mg base
 bs:∀b o,base.get? b=some o->s.heap.get? b=some o/\H b=none
 bsz:base.objs.size<=s.heap.objs.size
 funs:s.heap.FunFrames base outer
 frf:∀b∈frs outer,H b=none
 hok:HOk P w H s.heap
 bare:AllBare s.gens
def CE(outer:List Env)(P:Program)(w:World)(H:Hp)(s:Shared)(Q:VK)(u:Value)(s':Shared):Prop:=
 ∃v H',s'.os=s.os/\AllBare s'.gens/\Un (frs outer) [] H H' s.heap s'.heap/\HOk P w H' s'.heap/\RelV v u/\Q v H'
def CR(CX:CXT)(outer:List Env)(P:Program)(w:World)(H:Hp)(s:Shared)(Q:VK)(E:XK)(r:Result)(s':Shared):Prop:=
 match r with
 | .ok (.ret u)=>CE outer P w H s Q u s'
 | .ok _=>False
 | .error e=>CX outer H s E e s'
structure FnOk(P:Program)(w:World)(K:W.Frag)(mg:Str->Option Value)(base:Heap)(CX:CXT)(k:Nat)(f:Addr)(fd:FuncData)(ps:List Str)(sp:Sp):Prop where
 len:∀vs H Q E,sp vs H Q E->vs.length=ps.length
 run:∀(A:Around)(outer:List Env)(s:Shared)(H:Hp)(args:Args)(us:List Value)(vs:List V)(Q:VK)(E:XK),Room k A->Env0 P w K mg base A outer s H->BindsTo s fd args (ps.zip us)->Vals vs us->sp vs H Q E->
  codeAny (model P w) A (.call (.ref f) args) (CR CX outer P w H s Q E) s
theorem FnOk.mono{P:Program}{w:World}{K:W.Frag}{mg:Str->Option Value}{base:Heap}{CX:CXT}{j k:Nat}{f:Addr}{fd:FuncData}{ps:List Str}{sp:Sp}(F:FnOk P w K mg base CX j f fd ps sp)(h:j<=k):
  FnOk P w K mg base CX k f fd ps sp:=⟨F.len,fun A outer s H args us vs Q E hr=>F.run A outer s H args us vs Q E (hr.mono h)⟩
theorem Env0.make{P:Program}{w:World}{K:W.Frag}{mg:Str->Option Value}{base:Heap}{A:Around}{outer:List Env}{s:Shared}{H:Hp}(e:Env0 P w K mg base A outer s H)(C:Addr)(us:List Value)(kw:List (Str×Value)):
  Env0 P w K mg base (A.under (.builtin "type.__call__" ⟨.ref C::us,kw⟩)) outer s H:=⟨by first | exact e.frames | (simpa [Around.under,Code.envs,Code.isFrame,pushEnvs] using e.frames),e.mod,e.bs,e.bsz,e.funs,e.frf,e.hok,e.bare⟩
section
variable {X:Cx} {pins:List (Addr×Obj)} {σ:St} {H:Hp} {s s':Shared}
theorem Inv.env0(I:Inv X pins σ H s):Env0 X.prog X.w X.K X.mg X.base X.A X.stack s H:=
 ⟨I.ok.frames,I.ok.mod,I.bs,dI I.ok.bsz I.sz,I.stack,I.stkFree,I.hok,I.bare⟩
theorem Inv.after{Q:VK}{u:Value}(I:Inv X pins σ H s)(h:CE X.stack X.prog X.w H s Q u s'):EP X pins σ Q u s':=by obtain ⟨v,H',os,bare,un,hok,r,q⟩:=h;obtain ⟨hh,g,d,t,os'⟩:=s';obtain rfl:os'=s.os:=os;exact zAA v H' (I.call (h':=hh) (g':=g) (d':=d) (t':=t) (ch:=[]) un hok bare (fun b z=>absurd z Jll)) r q
end
def qz(sp:Sp)(dvs:List V)(E:XK)(t:TA):TE:=fun σ H Q=>t σ H fun vs H1=>sp (vs++dvs) H1 Q E
def ii(C:Addr)(m:Str)(sp:Sp)(dvs:List V)(E:XK)(ta:TE)(t:TA):TE:=fun σ H Q=>ta σ H fun x H1=>∃a dx fs,x=.ref a/\H1 a=some (.ins C dx fs)/\fs.lookup m=none/\
 t σ H1 fun vs H2=>sp (x::(vs++dvs)) H2 Q E
def kE(C:Addr)(sp:Sp)(dvs:List V)(E:XK)(t:TA):TE:=fun σ H Q=>t σ H fun vs H1=>∀x dx,H1 x=none->H1 dx=none->dx≠x->
 sp (.ref x::(vs++dvs)) (upd (upd H1 dx (.own x)) x (.ins C dx [])) (fun v H2=>v=.non/\Q (.ref x) H2) E
def Binds(K:W.Frag)(fd:FuncData)(ps:List Str)(ds:List Value):Prop:=
 ∀(s:Shared)(us:List Value),K.In s.heap->(us++ds).length=ps.length->BindsTo s fd ⟨us,[]⟩ (ps.zip (us++ds))
theorem Binds.all{K:W.Frag}{fd:FuncData}{ps:List Str}(h:∀us:List Value,us.length=ps.length->bindArgs fd ⟨us,[]⟩=pure (ps.zip us)):Binds K fd ps []:=fun s us _ hl=>by rw [ix] at hl ⊢;exact .of_eq (h us hl)
def eO(CX:CXT)(X:Cx)(E:XK):Prop:=∀(pins:List (Addr×Obj)) (σ:St) (H:Hp) (s:Shared) (e:Value) (s':Shared),Inv X pins σ H s->CX X.stack H s E e s'->X.xe e s'
section
variable {X:Cx} {CX:CXT} {k:Nat} {f C:Addr} {fd:FuncData} {ps:List Str} {sp:Sp} {dvs:List V} {ds:List Value} {E:XK} {x m:Str} {p pos apos:Pos} {e o:Expr} {es:List Expr} {ta:TE} {t:TA}
theorem sJ{pins:List (Addr×Obj)}{σ:St}{H:Hp}{s:Shared}{Q:VK}{us:List Value}{vs:List V}(F:FnOk X.prog X.w X.K X.mg X.base CX k f fd ps sp)(hr:Room k X.A)(hb:Binds X.K fd ps ds)(hd:Vals dvs ds)(hx:eO CX X E)
  (I:Inv X pins σ H s) (r:Vals vs us) (h:sp (vs++dvs) H Q E):wpAny (model X.prog X.w) X.A (call (.ref f) us) (EP X pins σ Q) X.xe s:=by
 have r2:Vals (vs++dvs) (us++ds):=r.append hd;have hl:(us++ds).length=ps.length:=by rw [<- r2.length];exact F.len _ _ _ _ h
 refine wpAny_call (codeAny_mono (F.run X.A X.stack s H ⟨us,[]⟩ (us++ds) (vs++dvs) Q E hr I.env0 (hb s us I.kIn hl) r2 h) fun r s' hq=>?_)
 cases r with
 |error e=>exact hx pins σ H s e s' I hq
 |ok fl=>
  cases fl with
  |ret u=>exact I.after hq
  |next=>exact False.elim hq
  |brk=>exact False.elim hq
  |cont=>exact False.elim hq
theorem CB(F:FnOk X.prog X.w X.K X.mg X.base CX k f fd ps sp)(hr:Room k X.A)(hg:Gl X x)(hm:X.mg x=some (.ref f))(hk:W.keepIn X.K (.ref f)=true)(hb:Binds X.K fd ps ds)(hd:Vals dvs ds)(hx:eO CX X E)
  (ha:PA X (e::es) t) (hdb:(x==("__debug__":Str))=false:=by decide) (he:starEach (e::es) X.env=(false,eval e X.env)::starEach es X.env:=by rfl) (hpl:(backTo pos (starEach es X.env)).any (·.1)=false:=by rfl) :
  PE X (.Call (.Name x p) (e::es) [] pos) (qz sp dvs E t):=by
 intro pins s σ H Q I h;refine wpAny_Call_Name_kw (gW I hg hm ?_ hdb);refine W.callWith_K (h₀:=X.base) I.ok.mod.kin hk (thn (ha pos pins s σ H _ I h) fun us s1 ⟨vs,H1,I1,r,q⟩=>⟨I1.kIn,?_⟩) he hpl;exact sJ F hr hb hd hx I1 r q
theorem uE{pl:Sem Bool}(he:PE X o ta)(c:Cls X.K C)(hm:vL X.K C m f)(F:FnOk X.prog X.w X.K X.mg X.base CX k f fd ps sp)(hr:Room k X.A)(hb:Binds X.K fd ps ds)(hd:Vals dvs ds)(hx:eO CX X E)(ha:PA X (e::es) t)
  (hst:starEach (e::es) X.env=(false,eval e X.env)::starEach es X.env:=by rfl) (hpl:(backTo pos (starEach es X.env)).any (·.1)=false:=by rfl)
  (ht:eval (.Call (.Attribute o m apos) (e::es) [] pos) X.env=(do
   let ov <- eval o X.env
   standAt apos.atName
   let (f,first) <- holding [ov] (getMethod ov m pl)
   callWith pos f first (backTo pos (starEach (e::es) X.env)) (backToKw pos (keywordEach [] X.env))):=by rfl) :
  PE X (.Call (.Attribute o m apos) (e::es) [] pos) (ii C m sp dvs E ta t):=by
 intro pins s σ H Q I h;refine W.methodCall_KW (pl:=pl) (thn (he pins s σ H _ I h) fun u s1 hhx=>?_) ht;obtain ⟨x,H1,I1,rx,a,dx,fs,ex,ea,l,q⟩:=hhx;subst ex;obtain rfl:u=Value.ref a:=rx;refine gE I1 ea c hm l ?_;refine W.callWith_K (first:=[.ref a]) (h₀:=X.base) I.ok.mod.kin hm.kp (thn (ha pos pins s1 σ H1 _ I1 q) fun us s2 ⟨vs,H2,I2,r,q2⟩=>⟨I2.kIn,?_⟩) hst hpl;exact sJ (us:=.ref a::us) (vs:=.ref a::vs) F hr hb hd hx I2 (.cons rfl r) q2
theorem zl{pl:Sem Bool}(he:PE X o ta)(c:Cls X.K C)(hm:vL X.K C m f)(F:FnOk X.prog X.w X.K X.mg X.base CX k f fd ps sp)(hr:Room k X.A)(hb:Binds X.K fd ps ds)(hd:Vals dvs ds)(hx:eO CX X E)
  (ht:eval (.Call (.Attribute o m apos) [] [] pos) X.env=(do
   let ov <- eval o X.env
   standAt apos.atName
   let (f,first) <- holding [ov] (getMethod ov m pl)
   callWith pos f first (backTo pos (starEach [] X.env)) (backToKw pos (keywordEach [] X.env))):=by rfl) :
  PE X (.Call (.Attribute o m apos) [] [] pos) (ii C m sp dvs E ta qB):=by
 intro pins s σ H Q I h;refine W.methodCall_KW (pl:=pl) (thn (he pins s σ H _ I h) fun u s1 hhx=>?_) ht;obtain ⟨x,H1,I1,rx,a,dx,fs,ex,ea,l,q⟩:=hhx;subst ex;obtain rfl:u=Value.ref a:=rx;refine gE I1 ea c hm l ?_;exact W.callWith_K0 (first:=[.ref a]) I1.kIn hm.kp (sJ (us:=[.ref a]) (vs:=[.ref a]) F hr hb hd hx I1 (.cons rfl .nil) q)
structure Mk(K:W.Frag)(C f:Addr):Prop where
 makes:W.makesIn K C=true
 init:W.findIn K (.ref C) "__init__"=some (some (.ref f))
 fn:W.isFn K (.ref f)=true
 kp:W.keepIn K (.ref C)=true
theorem pW{pins:List (Addr×Obj)}{σ:St}{H:Hp}{s:Shared}{Q:VK}{us:List Value}{vs:List V}(M:Mk X.K C f)(F:FnOk X.prog X.w X.K X.mg X.base CX k f fd ps sp)(hr:Room (k+1) X.A)(hb:Binds X.K fd ps ds)(hd:Vals dvs ds)
  (hx:eO CX X E) (I:Inv X pins σ H s) (r:Vals vs us)
  (h:∀x dx,H x=none->H dx=none->dx≠x->sp (.ref x::(vs++dvs)) (upd (upd H dx (.own x)) x (.ins C dx [])) (fun v H2=>v=.non/\Q (.ref x) H2) E) :
  wpAny (model X.prog X.w) X.A (call (.ref C) us) (EP X pins σ Q) X.xe s:=by
 have hq:=h (s.heap.objs.size+1) s.heap.objs.size (I.hok.fresh (Bu _)) (I.hok.fresh (zq5 _)) (cF (Bt _));have I2:=Inv.made (C:=C) I;have r2:Vals (V.ref (s.heap.objs.size+1)::(vs++dvs)) (Value.ref (s.heap.objs.size+1)::(us++ds)):=.cons rfl (r.append hd);have hl:(Value.ref (s.heap.objs.size+1)::us++ds).length=ps.length:=by have e:=r2.length;rw [F.len _ _ _ _ hq] at e;exact e.symm
 refine wpAny_call (yy (f:=f) I.kIn M.makes M.init (zq68.mp M.fn) (codeAny_mono (F.run _ X.stack _ _ ⟨Value.ref (s.heap.objs.size+1)::us,[]⟩ (Value.ref (s.heap.objs.size+1)::(us++ds)) _ _ E (hr.make C us [])
  (I2.env0.make C us []) (hb _ (Value.ref (s.heap.objs.size+1)::us) I2.kIn hl) r2 hq) fun r s' hq'=>?_))
 cases r with
 |error e=>exact hx pins σ _ _ e s' I2 hq'
 |ok fl=>
  cases fl with
  |ret u=>
   obtain ⟨v,H',I3,rv,ev,q3⟩:=I2.after hq';subst ev;exact ⟨rv,zAA (V.ref (s.heap.objs.size+1)) H' I3 rfl q3⟩
  |next=>exact False.elim hq'
  |brk=>exact False.elim hq'
  |cont=>exact False.elim hq'
theorem CD(M:Mk X.K C f)(F:FnOk X.prog X.w X.K X.mg X.base CX k f fd ps sp)(hr:Room (k+1) X.A)(hg:Gl X x)(hm:X.mg x=some (.ref C))(hb:Binds X.K fd ps ds)(hd:Vals dvs ds)(hx:eO CX X E)
  (ha:PA X (e::es) t) (hdb:(x==("__debug__":Str))=false:=by decide) (he:starEach (e::es) X.env=(false,eval e X.env)::starEach es X.env:=by rfl) (hpl:(backTo pos (starEach es X.env)).any (·.1)=false:=by rfl) :
  PE X (.Call (.Name x p) (e::es) [] pos) (kE C sp dvs E t):=by
 intro pins s σ H Q I h;refine wpAny_Call_Name_kw (gW I hg hm ?_ hdb);refine W.callWith_K (h₀:=X.base) I.ok.mod.kin M.kp (thn (ha pos pins s σ H _ I h) fun us s1 ⟨vs,H1,I1,r,q⟩=>⟨I1.kIn,?_⟩) he hpl;exact pW M F hr hb hd hx I1 r q
theorem zk(M:Mk X.K C f)(F:FnOk X.prog X.w X.K X.mg X.base CX k f fd ps sp)(hr:Room (k+1) X.A)(hg:Gl X x)(hm:X.mg x=some (.ref C))(hb:Binds X.K fd ps ds)(hd:Vals dvs ds)(hx:eO CX X E)
  (hdb:(x==("__debug__":Str))=false:=by decide):PE X (.Call (.Name x p) [] [] pos) (kE C sp dvs E qB):=by
 intro pins s σ H Q I h;refine wpAny_Call_Name_kw (gW I hg hm ?_ hdb);exact W.callWith_K0 I.kIn M.kp (pW (us:=[]) M F hr hb hd hx I .nil h)
end
section
variable {X:Cx} {CX:CXT} {k:Nat} {f C:Addr} {fd:FuncData} {ps ks:List Str} {sp:Sp} {E:XK} {x m:Str} {p pos apos kpos:Pos} {e o:Expr} {es:List Expr} {kws:List Keyword} {te ta:TE} {t tk:TA} {nm:Option Str}
variable {g:List Value->List Value->List Value} {gV:List V->List V->List V}
end
structure aE(N P:List Str)(sc:Scope):Prop where
 kind:sc.kind=.function
 co:sc.isCoroutine=false
 gen:sc.isGenerator=false
 nd:N.Nodup
 pre:N.take P.length=P
 par:∀x∈P,sc.names.lookup x=some .local\/sc.names.lookup x=some .cell
 nofree:∀y∈sc.names,y.2≠.free
theorem lD{kindOf:Str->Option NameKind}{x:Str}:∀{binds:List (Str×Value)} {m:Str->Option Value},(∀v,(x,v)∉binds)->bindL kindOf binds m x=m x
 | [],_,_=>rfl
 | (n,v)::r,m,h=>by
  unfold bindL;rw [lD fun w hw=>h w (zq9 _ hw)]
  split
  ·have:x≠n:=by rintro rfl;exact h v cV
   simp [this]
  ·rfl
theorem lA{kindOf:Str->Option NameKind}{x:Str}:∀{binds:List (Str×Value)} {m:Str->Option Value},(∀v,(x,v)∉binds)->bindC kindOf binds m x=m x
 | [],_,_=>rfl
 | (n,v)::r,m,h=>by
  unfold bindC;rw [lA fun w hw=>h w (zq9 _ hw)]
  split
  ·rfl
  ·have:x≠n:=by rintro rfl;exact h v cV
   simp [this]
theorem lC{kindOf:Str->Option NameKind}{x:Str}{v:Value}:∀{P:List Str} {vs:List Value} {i:Nat} {m:Str->Option Value},P.Nodup->P[i]?=some x->vs[i]?=some v->kindOf x=some .local->
  bindL kindOf (P.zip vs) m x=some v
 | [],_,_,_,_,h,_,_=>by simp at h
 |_::_,[],_,_,_,_,h,_=>by simp at h
 |p::P,w::vs,0,m,nd,h1,h2,hk=>by
  simp at h1 h2;subst h1;subst h2;show bindL kindOf ((p,w)::P.zip vs) m p=_;unfold bindL;rw [lD fun v hv=>(zq34.mp nd).1 (AX hv).1,zq1 hk];simp
 |p::P,w::vs,i+1,m,nd,h1,h2,hk=>by show bindL kindOf ((p,w)::P.zip vs) m x=_;unfold bindL;exact lC (i:=i) (zq34.mp nd).2 (by simpa using h1) (by simpa using h2) hk
theorem lj{kindOf:Str->Option NameKind}{x:Str}{v:Value}:∀{P:List Str} {vs:List Value} {i:Nat} {m:Str->Option Value},P.Nodup->P[i]?=some x->vs[i]?=some v->kindOf x≠some .local->
  bindC kindOf (P.zip vs) m x=some v
 | [],_,_,_,_,h,_,_=>by simp at h
 |_::_,[],_,_,_,_,h,_=>by simp at h
 |p::P,w::vs,0,m,nd,h1,h2,hk=>by
  simp at h1 h2;subst h1;subst h2;show bindC kindOf ((p,w)::P.zip vs) m p=_;unfold bindC;rw [lA fun v hv=>(zq34.mp nd).1 (AX hv).1,zq0 hk];simp
 |p::P,w::vs,i+1,m,nd,h1,h2,hk=>by show bindC kindOf ((p,w)::P.zip vs) m x=_;unfold bindC;exact lj (i:=i) (zq34.mp nd).2 (by simpa using h1) (by simpa using h2) hk
def aO(N:List Str)(vs:List V):St:=vs.map some++List.replicate (N.length-vs.length) none
def oG(CX:CXT)(P:Program)(w:World)(K:W.Frag)(mg:Str->Option Value)(base:Heap)(N:List Str)(qual:Str)(scope:Scope)(f:Addr)(cd:Value)(A:Around)(outer:List Env)(s:Shared)(H:Hp)(E:XK):Cx where
 prog:=P
 w:=w
 K:=K
 mg:=mg
 base:=base
 A:=A.deeper (envOfC qual scope s.heap.objs.size f cd)
 N:=N
 s₀:=s
 H₀:=H
 env:=envOfC qual scope s.heap.objs.size f cd
 outer:=outer
 stack:=envOfC qual scope s.heap.objs.size f cd::outer
 ex:=[]
 calm:=true
 fn:=fun _=>true
 pn:=[]
 xe:=fun e s'=>wpAny (model P w) (A.deeper (envOfC qual scope s.heap.objs.size f cd)) (leaving (envOfC qual scope s.heap.objs.size f cd) e) (fun _ s''=>CX outer H s E e s'') (fun e' s''=>CX outer H s E e' s'') s'
theorem ox{sc:Scope}{n:Nat}{x:Str}(h:sc.names.lookup x=some .cell):∃c,(cellsFrom n sc.names []).lookup x=some c:=by have q:=W.cellsFrom_some sc.names n [] (.inl h);exact zq158.mp q
theorem wq{CX:CXT}{P:Program}{w:World}{K:W.Frag}{mg:Str->Option Value}{base:Heap}{N ps:List Str}{qual:Str}{scope:Scope}{f:Addr}{cd:Value}{A:Around}{outer:List Env}{s s1:Shared}{H:Hp}{E:XK}{us:List Value}{vs:List V}
  (S:aE N ps scope) (hd:A.handled=none) (e0:Env0 P w K mg base A outer s H) (hl:vs.length=ps.length) (r:Vals vs us)
  (x:InCallC s s.heap.objs.size (bindL (envOfC qual scope s.heap.objs.size f cd).kindOf (ps.zip us) fun _=>none) (cellsFrom (s.heap.objs.size+1) scope.names []) (bindC (envOfC qual scope s.heap.objs.size f cd).kindOf (ps.zip us) fun _=>none) s1) :
  Inv (oG CX P w K mg base N qual scope f cd A outer s H E) [] (aO N vs) H s1:=by
 have hpl:ps.length<=N.length:=by have:=congrArg List.length S.pre;rw [dw] at this;omega
 obtain ⟨h1,tk,rfl,hk⟩:=x.done;have noA:∀b:Addr,b∉(oG CX P w K mg base N qual scope f cd A outer s H E).ex:=fun b z=>absurd (show b∈([]:List Addr) from z) Jll;refine ⟨⟨e0.mod,S.kind,rfl,rfl,zq5 _,fun y z c h1 h2=>?_,fun y hy=>?_,fun y c _ h=>?_,fun _=>hd,Around.frames_deeper e0.frames,.inr ⟨rfl,rfl⟩,fun b z=>absurd z (noA b),e0.bs,e0.bsz,fun b _ _=>noA b,fun b z=>absurd z (noA b),e0.funs,e0.frf⟩,
  rfl,e0.bare,Un.kept hk,zn _ x.toInCall.ns fun i y v h1 h2 h3=>?_,fun y c h=>⟨_,x.cell y c h⟩,e0.hok.fresh (zq5 _),fun y c h=>?_,fun p hp=>absurd (show p∈([]:List (Addr×Obj)) from hp) Jll,e0.hok.kept hk,?_⟩
 ·exact name_of_addr x.apart (PySem.mem_of_lookup h1) (PySem.mem_of_lookup h2)
 ·have hy:scope.names.lookup y=some .cell\/scope.names.lookup y=some .free:=hy;rcases hy with hy | hy
  ·exact ox hy
  ·exact absurd rfl (S.nofree _ (PySem.mem_of_lookup hy))
 ·exact vB (x.above y c (PySem.mem_of_lookup h))
 ·have hi:i<vs.length:=by
   unfold aO at h2
   by_cases hi:i<vs.length
   ·exact hi
   ·rw [iy (by simpa using hi)] at h2;rw [Bv] at h2
    split at h2<;>cases h2
  have ha:vs[i]?=some v:=by
   unfold aO at h2;rw [jp (by simpa using hi),bE] at h2
   cases e:vs[i]? with
   |none=>rw [e] at h2;cases h2
   |some a=>rw [e] at h2;cases h2;rfl
  obtain ⟨u,hu,rv⟩:=r.get ha;have hp:ps[i]?=some y:=by rw [<- S.pre,List.getElem?_take_of_lt Jlk];exact h1
  have ndP:ps.Nodup:=by rw [<- S.pre];exact S.nd.sublist (List.take_sublist _ _)
  refine zn u rv ?_;rcases S.par y (bD hp) with k | k
  ·exact .inl ⟨k,lC ndP hp hu k⟩
  ·obtain ⟨c,e⟩:=ox (n:=s.heap.objs.size+1) k;refine .inr ⟨.inl k,zn c e ?_⟩;have q:=x.cell y c e;rw [lj ndP hp hu (by show scope.names.lookup y≠_;rw [k];decide)] at q;exact q
 ·exact e0.hok.fresh (vB (x.above y c (PySem.mem_of_lookup h)))
 ·unfold aO;show _=N.length;rw [zq7,zq3,vC];omega
theorem Iq{CX:CXT}{P:Program}{w:World}{K:W.Frag}{mg:Str->Option Value}{base:Heap}{k:Nat}{f:Addr}{name qual:Str}{params:Arguments}{body:List Stmt}{scope:Scope}{dV kV doc pm cdv ct oc:Value}{an od:Option Addr}
  {osl:Array (Option Value)} {N ps:List Str} {sp:Sp} (lk:K.lookup f=some ⟨oc,od,.func (W.fnOf name qual params body scope dV kV doc pm an cdv ct),osl⟩) (hcd:W.codeIn K cdv qual=true) (S:aE N ps scope)
  (len:∀vs H Q E,sp vs H Q E->vs.length=ps.length)
  (hbody:∀(A:Around)(outer:List Env)(s:Shared)(H:Hp)(vs:List V)(Q:VK)(E:XK),Room k (A.deeper (envOfC qual scope s.heap.objs.size f cdv))->sp vs H Q E->
   ∃t,PSs (oG CX P w K mg base N qual scope f cdv A outer s H E) body t/\t {nx:=fun _ H'=>Q .non H',rt:=Q} (aO N vs) H) :
  FnOk P w K mg base CX (k+1) f (W.fnOf name qual params body scope dV kV doc pm an cdv ct) ps sp:=by
 refine ⟨len,fun A outer s H args us vs Q E hr e0 hb r hsp=>?_⟩;have hl:=len _ _ _ _ hsp;have KX:K.In s.heap:=e0.mod.kin.keeps fun b o e=>(e0.bs b o e).1;have lim:s.heap.NoLimit:=e0.mod.nolimit.keeps fun b o e=>(e0.bs b o e).1;have hkind:∀y∈ps.zip us,scope.names.lookup y.1=some .local\/(scope.names.lookup y.1=some .cell/\((cellsFrom (s.heap.objs.size+1) scope.names []).lookup y.1).isSome=true):=fun ⟨n,v⟩ hy=>by
  rcases S.par n (AX hy).1 with q | q
  ·exact .inl q
  ·exact .inr ⟨q,W.cellsFrom_some _ _ _ (.inl q)⟩
 refine codeAny_call_function hr.depth (KX _ _ lk) rfl S.co S.gen rfl (W.codeRec_of KX hcd) (hb _ _ _ _ ?_);refine wpAny_newFunctionEnv_cells S.kind hkind fun env he s1 x=>?_;subst he;refine ⟨lim.keeps x.toInCall.keep,codeAny_func ?_⟩;obtain ⟨t,ht,hq⟩:=hbody A outer s H vs Q E (hr.deeper _) hsp;have I:Inv (oG CX P w K mg base N qual scope f cdv A outer s H E) [] (aO N vs) H s1:=wq S hr.hd e0 hl r x;refine iw (ht [] s1 (aO N vs) H _ I hq) (fun fl s' hs=>?_) fun e s' hs=>hs;have fin:∀{σ':St} {H':Hp} {v:V} {u:Value},Inv (oG CX P w K mg base N qual scope f cdv A outer s H E) [] σ' H' s'->RelV v u->Q v H'->CE outer P w H s Q u s':=
  fun {σ' H' v u} J rv q=>zBB v H' J.os J.bare J.base J.hok rv q
 cases fl with
 |ret u=>
  obtain ⟨v,σ',H',J,rv,q⟩:=hs;exact fin J rv q
 |next=>
  obtain ⟨σ',H',J,q⟩:=hs;exact fin (v:=V.non) (u:=Value.none) J rfl q
 |brk=>
  obtain ⟨_,_,_,q⟩:=hs;exact False.elim q
 |cont=>obtain ⟨_,_,_,q⟩:=hs;exact False.elim q
end L2
namespace L2
section
variable {X:Cx} {x:Str} {p pos:Pos} {e:Expr} {es:List Expr} {t:TA} {id T:String} {r:List V->Hp->VK->Prop}
def tCB(r:List V->Hp->VK->Prop)(t:TA):TE:=fun σ H Q=>t σ H fun vs H1=>r vs H1 Q
theorem zf(hc:dP X (.builtin id) r)(hg:Gl X x)(hm:X.mg x=none)(hv:bootBuiltins x=some (.builtin id))(ha:PA X (e::es) t)(hn:x≠"__name__":=by decide) (hdb:(x==("__debug__":Str))=false:=by decide)
  (he:starEach (e::es) X.env=(false,eval e X.env)::starEach es X.env:=by rfl) (hpl:(backTo pos (starEach es X.env)).any (·.1)=false:=by rfl):PE X (.Call (.Name x p) (e::es) [] pos) (tCB r t):=by
 intro pins s σ H Q I h;refine wpAny_Call_Name_kw (eX I hg hm hv ?_ hn hdb);exact PyProof.Rows.callWith_builtin1 (thn (ha pos pins s σ H _ I h) fun us s1 ⟨vs,H1,I1,r1,q1⟩=>hc pins s1 σ H1 vs us Q I1 r1 q1) he hpl
theorem wR(hc:dP X (.type T) r)(hg:Gl X x)(hm:X.mg x=none)(hv:bootBuiltins x=some (.type T))(ha:PA X (e::es) t)(hn:x≠"__name__":=by decide) (hdb:(x==("__debug__":Str))=false:=by decide)
  (he:starEach (e::es) X.env=(false,eval e X.env)::starEach es X.env:=by rfl) (hpl:(backTo pos (starEach es X.env)).any (·.1)=false:=by rfl):PE X (.Call (.Name x p) (e::es) [] pos) (tCB r t):=by
 intro pins s σ H Q I h;refine wpAny_Call_Name_kw (eX I hg hm hv ?_ hn hdb);exact PyProof.Rows.callWith_type1 (thn (ha pos pins s σ H _ I h) fun us s1 ⟨vs,H1,I1,r1,q1⟩=>hc pins s1 σ H1 vs us Q I1 r1 q1) he hpl
end
end L2
end
namespace HT
open PySem PyProof.Rows
section
open PySem.SeqAt
open PySem.AutoSeq1 (wpAny_loadPart')
open PySem.MeetsSeq PySem.MeetsSeq2 PySem.MeetsSeq3
end
section
variable {prog:Program} {w:World} {A:Around} {E:Value->Shared->Prop} {s:Shared}
def sIx(n d:Nat):Option Int->Nat
 |none=>d
 |some v=>if v<0 then (v+(n:Int)).toNat else min v.toNat n
theorem pX(n d:Nat):sIx n d none=d:=rfl
theorem ny(n d k:Nat):sIx n d (some (k:Int))=min k n:=by show (if (k:Int)<0 then ((k:Int)+(n:Int)).toNat else min (k:Int).toNat n)=min k n;rw [zq0 Jlk,kK]
theorem Ho(n d:Nat)(hd:d<=n)(o:Option Int):sIx n d o<=n:=by
 cases o with
 |none=>exact hd
 |some v=>
  show (if v<0 then (v+(n:Int)).toNat else min v.toNat n)<=n
  by_cases hv:v<0
  ·rw [zq1 hv];omega
  ·rw [zq0 hv];exact Nat.min_le_right _ _
theorem tW(v:Int)(n d:Nat):(if v<0 then max (v+(n:Int)) 0 else min v (n:Int))=((sIx n d (some v):Nat):Int):=by
 show (if v<0 then max (v+(n:Int)) 0 else min v (n:Int))=(((if v<0 then (v+(n:Int)).toNat else min v.toNat n):Nat):Int)
 by_cases hv:v<0
 ·simp only [if_pos hv];omega
 ·simp only [if_neg hv];omega
theorem rn(lo hi:Option Int)(n:Nat):Builtin.Slice.sliceAdjust lo hi 1 (n:Int)=(((sIx n 0 lo:Nat):Int),((sIx n n hi:Nat):Int)):=by
 have h1:¬((1:Int)<0):=by omega
 unfold Builtin.Slice.sliceAdjust;simp only [h1,if_false];refine Prod.ext ?_ ?_
 ·cases lo with
  |none=>rfl
  |some v=>exact tW v n 0
 ·cases hi with
  |none=>rfl
  |some v=>exact tW v n n
theorem sr(i j:Nat):Builtin.Slice.slicePlaces (i:Int) (j:Int) 1=j-i:=by
 unfold Builtin.Slice.slicePlaces;have h1:(1:Int)>0:=by omega
 simp only [h1,if_true,Int.ediv_one]
 split<;>omega
theorem ky{v:Value}{o:Option Int}{Q:Option Int->Shared->Prop}(p:IsPart v o)(h:Q o s):wpAny (model prog w) A (Builtin.Slice.slicePartIndex v) Q E s:=by
 cases p with
 |none=>exact slicePart_none h
 |int i t=>exact slicePart_int h
theorem iO{sl:Addr}{vl vu:Value}{lo hi:Option Int}{n:Nat}{Q:Int×Int×Nat->Shared->Prop}(hs:s.heap.IsSliceOf sl vl vu .none)(pl:IsPart vl lo)(pu:IsPart vu hi)
  (h:Q (((sIx n 0 lo:Nat):Int),1,sIx n n hi-sIx n 0 lo) s):wpAny (model prog w) A (Builtin.Slice.sliceApplied (.ref sl) (pure (n:Int))) Q E s:=by
 obtain ⟨os,hos,hcs,hds⟩:=id hs;unfold Builtin.Slice.sliceApplied Builtin.Slice.sliceFields;refine zq2 (zq2 (wpAny_field hos hds (x:=vl) rfl (zq2 (wpAny_field hos hds (x:=vu) rfl (zq2 (wpAny_field hos hds (x:=.none) rfl (zq4 ?_)))))));refine zq2 (slicePart_none ?_);show wpAny _ _ (if ((1:Int)==0)=true then _ else _) _ _ s;rw [zq0 Jkm];refine zq2 (ky pl (zq2 (ky pu (zq2 (zq4 ?_)))));show wpAny _ _ (match Builtin.Slice.sliceAdjust lo hi 1 (n:Int) with | (lo,hi)=>pure (lo,(1:Int),Builtin.Slice.slicePlaces lo hi 1)) _ _ s;rw [rn lo hi n];show wpAny _ _ (pure (((sIx n 0 lo:Nat):Int),(1:Int),Builtin.Slice.slicePlaces ((sIx n 0 lo:Nat):Int) ((sIx n n hi:Nat):Int) 1)) _ _ s;rw [sr];exact zq4 h
theorem zr(xs:Array Value)(i k:Nat):((List.range k).filterMap fun (m:Nat)=>xs[((i:Int)+(m:Int) * 1).toNat]?).toArray=((xs.toList.drop i).take k).toArray:=by
 have e:(fun (m:Nat)=>xs[((i:Int)+(m:Int) * 1).toNat]?)=fun m=>xs[i+m]?:=by
  funext m
  have:((i:Int)+(m:Int) * 1).toNat=i+m:=by omega
  rw [this]
 rw [e];have:=pick_run xs i k;rw [List.filterMap_map] at this;have e2:((fun x=>xs[x]?) ∘ fun x=>i+x)=fun m=>xs[i+m]?:=rfl;rw [e2] at this;rw [this]
theorem gS{t sl:Addr}{items:Array Value}{vl vu:Value}{lo hi:Option Int}{Q:Value->Shared->Prop}(ht:IsTup s.heap t items)(hs:s.heap.IsSliceOf sl vl vu .none)(pl:IsPart vl lo)(pu:IsPart vu hi)
  (hw:¬(sIx items.size 0 lo=0/\sIx items.size items.size hi=items.size))
  (h:Q (.ref s.heap.objs.size) {s with heap:=s.heap.push {cls:=.type "tuple",data:=.seq ((items.toList.drop (sIx items.size 0 lo)).take (sIx items.size items.size hi-sIx items.size 0 lo)).toArray}})
  (hsz:items.size<=sizeLine):wpAny (model prog w) A (getItem (.ref t) (.ref sl)) Q E s:=by
 have htake:sizeOk (.seq ((items.toList.drop (sIx items.size 0 lo)).take (sIx items.size items.size hi-sIx items.size 0 lo)).toArray):=by show ((items.toList.drop (sIx items.size 0 lo)).take (sIx items.size items.size hi-sIx items.size 0 lo)).toArray.size<=sizeLine;rw [fc,dw,Bw,By];omega
 have hj:sIx items.size items.size hi<=items.size:=Ho _ _ (zq5 _) hi;obtain ⟨os,hos,hcs,hds⟩:=id hs;have hTs:s.TypeIs (.ref sl) "slice":=zn os hos hcs
 unfold getItem
 try with_reducible refine qV ?_
 first | refine zq2 (zq4 ?_) | skip
 refine zq2 (wpAny_sequenceKey ht.typeIs Jkm ?_);refine zq2 (wpAny_callSpecial?_slot (name:=Str.ofString "__getitem__") ht.typeIs PyProof.Rows.slot_tuple_getitem
  (wpAny_call_entry PyProof.Rows.slot_tuple_getitem ht.typeIs entry_tuple_getitem ?_ (args_tuple_getitem _ _)))
 show wpAny _ _ (Builtin.Tuple.tupleItemsOf (.ref t) >>= _) _ _ s;refine zq2 (tupleItemsOf_ ht ?_);refine zq2 (wpAny_typeOf hTs ?_);rw [zq1 Jkm];refine zq2 (iO hs pl pu ?_);have hno:¬((((sIx items.size 0 lo:Nat):Int)==0&&(1:Int)==1&&(sIx items.size items.size hi-sIx items.size 0 lo)==items.size)=true):=by intro q;rw [eG,eG] at q;have q1:((sIx items.size 0 lo:Nat):Int)=0:=eq_of_beq q.1.1;have q2:sIx items.size items.size hi-sIx items.size 0 lo=items.size:=eq_of_beq q.2;exact hw ⟨Jlk,Jlk⟩
 show wpAny _ _ (if (((sIx items.size 0 lo:Nat):Int)==0&&(1:Int)==1&&(sIx items.size items.size hi-sIx items.size 0 lo)==items.size)=true then _ else _) _ _ s;rw [zq0 hno,zr]
 first
  |exact zq2 (m:=Builtin.Tuple.tupleExact _) (wpAny_newObj_type (zq4 ⟨_,rfl,zq4 h⟩) htake)
  |exact zq2 (m:=Builtin.Tuple.tupleExact _) (wpAny_newObj_type (zq2 (zq4 (zq4 ⟨_,rfl,zq4 h⟩))) htake)
  |exact zq2 (zq2 (m:=Builtin.Tuple.tupleExact _) (wpAny_newObj_type (zq4 (zq4 ⟨_,rfl,zq4 h⟩)) htake))
  |exact zq2 (zq2 (m:=Builtin.Tuple.tupleExact _) (wpAny_newObj_type (zq4 ⟨_,rfl,zq4 h⟩) htake))
end
end HT
section
open PySem PySem.Spec PyProof.Rows
namespace L2
abbrev TO:=St->Hp->(Option Int->Hp->Prop)->Prop
def PO(X:Cx)(e:Option Expr)(t:TO):Prop:=
 ∀(pins:List (Addr×Obj)) (s:Shared) (σ:St) (H:Hp) (Q:Option Int->Hp->Prop),Inv X pins σ H s->t σ H Q->
  wpAny (model X.prog X.w) X.A (evalPart e X.env) (fun u s'=>∃o H',Inv X pins σ H' s'/\IsPart u o/\Q o H') X.xe s
def vq:TO:=fun _ H Q=>Q none H
def EM(t:TE):TO:=fun σ H Q=>t σ H fun x H1=>∃i,x=.int i/\Q (some i) H1
section
variable {X:Cx} {e:Expr} {te:TE} {lo hi:Option Expr} {tl th:TO} {pos p2:Pos}
def SlR(X:Cx)(r:V->Option Int->Option Int->Hp->VK->Prop):Prop:=
 ∀(pins:List (Addr×Obj)) (s:Shared) (σ:St) (H:Hp) (x:V) (v vl vu:Value) (lo hi:Option Int) (sl:Addr) (Q:VK),Inv X pins σ H s->RelV x v->s.heap.IsSliceOf sl vl vu .none->IsPart vl lo->IsPart vu hi->r x lo hi H Q->
  ∃T id,typeLookup (.type T) "__getitem__"=pure (some (.builtin id))/\s.TypeIs v T/\wpAny (model X.prog X.w) X.A (getItem v (.ref sl)) (EP X pins σ Q) X.xe s
def tSl(r:V->Option Int->Option Int->Hp->VK->Prop)(te:TE)(tl th:TO):TE:=fun σ H Q=>te σ H fun x H1=>tl σ H1 fun l H2=>th σ H2 fun u H3=>r x l u H3 Q
def gf(xs:List V)(lo hi:Option Int):List V:=(xs.drop (HT.sIx xs.length 0 lo)).take (HT.sIx xs.length xs.length hi-HT.sIx xs.length 0 lo)
theorem j3(xs:List V)(lo hi:Option Int):(gf xs lo hi).length<=xs.length:=by unfold gf;rw [dw,Bw];omega
def IV(K:W.Frag):V->Option Int->Option Int->Hp->VK->Prop:=fun x lo hi H Q=>∃a xs,x=.ref a/\SqT K H a xs/\
 ¬(HT.sIx xs.length 0 lo=0/\HT.sIx xs.length xs.length hi=xs.length)/\∀p,H p=none->Q (.ref p) (upd H p (.tup (gf xs lo hi)))
theorem Aa:SlR X (IV X.K):=by
 intro pins s σ H x v vl vu lo hi sl Q I rx hs pl pu h;obtain ⟨a,xs,rfl,hx,hw,q⟩:=h
 cases rx
 obtain ⟨its,r,ht,hz⟩:=I.tuple hx;have hlen:its.toArray.size=xs.length:=by rw [fc];exact r.length.symm
 refine zAA ("tuple") _ PyProof.Rows.slot_tuple_getitem.lookup ht.typeIs ?_;refine HT.gS ht hs pl pu (by rw [hlen];exact hw) ?_ (by rw [hlen];exact hz);rw [hlen];refine zAA (.ref s.heap.objs.size) _ (I.laid (t':=s.toks) (o:=.tup (gf xs lo hi)) (fun b ob q=>cc _ q) (zq5 _) ?_) rfl (q _ (I.hok.fresh (zq5 _)));exact ⟨dI (j3 xs lo hi) hz,zn _ ((r.drop (HT.sIx xs.length 0 lo)).take (HT.sIx xs.length xs.length hi-HT.sIx xs.length 0 lo)) (IsTup.new _ _)⟩
end
end L2
namespace L2
def ixN(n:Nat)(i:Int):Option Nat:=if 0<=i then (if i<n then some i.toNat else none) else if -(n:Int)<=i then some (i+n).toNat else none
def atI{α:Type}(xs:List α)(i:Int):Option α:=(ixN xs.length i).bind fun j=>xs[j]?
theorem uo{n:Nat}{i:Int}{j:Nat}(h:ixN n i=some j):seqIndex? i n=some j/\j<n/\-(n:Int)<=i/\i<n:=by
 unfold ixN at h
 by_cases h0:0<=i
 ·rw [zq1 h0] at h
  by_cases h1:i<n
  ·rw [zq1 h1] at h;have e:i.toNat=j:=Option.some.inj h;exact zAF (by rw [seqIndex_of h0 h1,e]) Jlk Jlk h1
  ·rw [zq0 h1] at h;cases h
 ·rw [zq0 h0] at h
  by_cases h1:-(n:Int)<=i
  ·rw [zq1 h1] at h;have e:(i+n).toNat=j:=Option.some.inj h;exact zAF (by rw [seqIndex_neg Jlk h1,e]) Jlk h1 Jlk
  ·rw [zq0 h1] at h;cases h
theorem mC{α:Type}{xs:List α}{i:Int}{v:α}(h:atI xs i=some v):∃j,seqIndex? i xs.length=some j/\xs[j]?=some v/\j<xs.length/\-(xs.length:Int)<=i/\i<xs.length:=by
 unfold atI at h
 cases e:ixN xs.length i with
 |none=>rw [e] at h;cases h
 |some j=>rw [e] at h;obtain ⟨h1,h2,h3,h4⟩:=uo e;exact zAS j h1 h h2 h3 h4
theorem bq{α:Type}{xs:List α}{j:Nat}{v:α}(h:xs[j]?=some v):atI xs (j:Int)=some v:=by
 have hj:j<xs.length:=(zq11.mp h).1;have e:ixN xs.length (j:Int)=some j:=by unfold ixN;rw [zq1 Jlk,zq1 Jlk];simp
 unfold atI;rw [e];exact h
theorem fk{α:Type}(xs:List α)(v:α):atI (xs++[v]) (-1)=some v:=by
 have hl:(xs++[v]).length=xs.length+1:=by simp
 have e:ixN (xs++[v]).length (-1)=some xs.length:=by unfold ixN;rw [hl,zq0 Jkm,zq1 Jlk];congr 1;omega
 unfold atI;rw [e];show (xs++[v])[xs.length]?=some v;simp
def BE(b:Expr):Prop:=∀o i,subscripted b false o i=operate [o,i] (getItem o i)
def IxR(X:Cx)(r:R2):Prop:=
 ∀(value slice:Expr)(pins:List (Addr×Obj)) (s:Shared) (σ:St) (H:Hp) (x y:V) (v u:Value) (Q:VK),Inv X pins σ H s->RelV x v->RelV y u->r x y H Q->
  subscripted slice false v u=operate [v,u] (getItem v u)->wpAny (model X.prog X.w) X.A (subscriptTail value slice v u) (EP X pins σ Q) X.xe s
def MtR(X:Cx)(id:String)(r:V->List V->Hp->VK->Prop):Prop:=
 ∀(pins:List (Addr×Obj)) (s:Shared) (σ:St) (H:Hp) (x:V) (xs:List V) (v:Value) (us:List Value) (Q:VK),Inv X pins σ H s->RelV x v->Vals xs us->r x xs H Q->
  wpAny (model X.prog X.w) X.A (call (.builtin id) (v::us)) (EP X pins σ Q) X.xe s
section
variable {X:Cx} {a b:Expr} {ta tb:TE} {pos:Pos}
def Gh(K:W.Frag):R2:=fun x y H Q=>∃p xs i v,x=.ref p/\y=.int i/\SqL K H p xs/\atI xs i=some v/\Q v H
def CN(K:W.Frag):R2:=fun x y H Q=>∃p xs i v,x=.ref p/\y=.int i/\SqT K H p xs/\atI xs i=some v/\Q v H
def IO:R2:=fun x y H Q=>∃z i c,x=.str z/\y=.int i/\z.length<=sizeLine/\atI z.cps.toList i=some c/\Q (.str ⟨#[c]⟩) H
theorem aN:IxR X (Gh X.K):=by
 intro value slice pins s σ H x y v u Q I rx ry h hs;obtain ⟨p,xs,i,z,rfl,rfl,hq,he,q⟩:=h
 cases rx
 obtain ⟨t,rfl⟩:=ry;obtain ⟨its,r,pl,hz⟩:=I.list hq;obtain ⟨j,h1,h2,h3,h4,h5⟩:=mC he;obtain ⟨w,ew,rw'⟩:=r.get h2;have hl:=r.length;have hn:=iL;have fin:EP X pins σ Q w s:=zAA z H I rw' q
 by_cases h0:0<=i
 ·have hj:i.toNat=j:=by rw [seqIndex_of h0 h5] at h1;exact Option.some.inj h1
  exact item_listR pl.isList h0 Jlk (by rw [hj];simpa using ew) fin hs
 ·have hj:(i+(its.toArray.size:Int)).toNat=j:=by rw [seqIndex_neg Jlk h4] at h1;rw [fc,<- hl];exact Option.some.inj h1
  exact subscriptTail_builtinR (x:=w) pl.isList.typeIs slot_list_getitem.lookup
   (wpAny_getItem_list_neg (Q:=fun r s'=>r=w/\EP X pins σ Q r s') pl.isList Jlk (by rw [fc]<;>omega) Jlk (by rw [hj];simpa using ew) ⟨rfl,fin⟩) hs
theorem ay:IxR X (CN X.K):=by
 intro value slice pins s σ H x y v u Q I rx ry h hs;obtain ⟨p,xs,i,z,rfl,rfl,hq,he,q⟩:=h
 cases rx
 obtain ⟨t,rfl⟩:=ry;obtain ⟨its,r,pl,hz⟩:=I.tuple hq;obtain ⟨j,h1,h2,h3,h4,h5⟩:=mC he;obtain ⟨w,ew,rw'⟩:=r.get h2;have hl:=r.length;have hn:=iL;have fin:EP X pins σ Q w s:=zAA z H I rw' q
 exact subscriptTail_builtinR (x:=w) pl.typeIs slot_tuple_getitem.lookup
  (getItem_tuple (j:=j) (Q:=fun r s'=>r=w/\EP X pins σ Q r s') pl Jlk Jlk (by rw [fc,<- hl];exact h1) (by simpa using ew) ⟨rfl,fin⟩) hs
theorem Fl:IxR X IO:=by
 intro value slice pins s σ H x y v u Q I rx ry h hs;obtain ⟨z,i,c,rfl,rfl,hz,he,q⟩:=h;obtain ⟨t,rfl⟩:=rx;obtain ⟨t',rfl⟩:=ry;obtain ⟨j,h1,h2,h3,h4,h5⟩:=mC he;have hl:z.cps.toList.length=z.length:=by simp [Str.length]
 rw [hl] at h1 h4 h5;have hn:=iL;exact tail_any (typeIs_str s z t) slot_str_getitem.lookup (getItem_str (c:=c) (by have e1:decide (i < -(2 ^ 63:Int))=false:=bC Jlk;have e2:decide (i ≥ 2 ^ 63)=false:=bC Jlk;rw [e1,e2,Bool.or_false]) (by rw [h1];simpa using h2) (zAA (.str ⟨#[c]⟩) H (I.tok _) ⟨_,rfl⟩ q)) hs
theorem rS(its:List Value)(n j:Nat)(u:Value):Obj.mapSeq (·.setIfInBounds j u) {cls:=.type "list",data:=.seq its.toArray n}={cls:=.type "list",data:=.seq (its.set j u).toArray n}:=by simp [Obj.mapSeq]
theorem Inv.lst{pins:List (Addr×Obj)}{σ:St}{H:Hp}{s:Shared}{p:Addr}{xs:List V}(I:Inv X pins σ H s)(h:H p=some (.lst xs)):
  ∃(its:List Value)(n:Nat),Vals xs its/\s.heap.get? p=some {cls:=.type "list",data:=.seq its.toArray n}/\xs.length<=sizeLine:=by
 obtain ⟨z,its,n,r,e⟩:=I.hok p _ h;exact zAA its n r e z
theorem Inv.lstUpd{pins:List (Addr×Obj)}{σ:St}{H:Hp}{s:Shared}{p:Addr}{xs ys:List V}{its its':List Value}{n n':Nat}{f:Obj->Obj}(I:Inv X pins σ H s)(h:H p=some (.lst xs))
  (ho:s.heap.get? p=some {cls:=.type "list",data:=.seq its.toArray n}) (hf:f {cls:=.type "list",data:=.seq its.toArray n}={cls:=.type "list",data:=.seq its'.toArray n'}) (r:Vals ys its') (hz:ys.length<=sizeLine) (t:Nat) :
  Inv X pins σ (upd H p (.lst ys)) {s with heap:=s.heap.update p f,toks:=t}:=by
 have e:(s.heap.update p f).get? p=some {cls:=.type "list",data:=.seq its'.toArray n'}:=by rw [AY f ho (by rw [hf]<;>rfl),hf]
 refine I.write (x:=p) (e:=p) (by rw [h];trivial) (.inl rfl) (fun b u hb q=>(EQ _ _ (Ne.symm hb)).trans q) ⟨_,e⟩ ?_;exact ⟨hz,zAD its' n' r e⟩
def IS:V->V->V->Hp->(Hp->Prop)->Prop:=fun o i v H Q=>∃p xs k j,o=.ref p/\i=.int k/\H p=some (.lst xs)/\ixN xs.length k=some j/\Q (upd H p (.lst (xs.set j v)))
theorem kx:F3 X IS:=by
 intro pins s σ H o i v ov iv u Q I ro ri rv h;obtain ⟨p,xs,k,j,rfl,rfl,hp,hj,q⟩:=h
 cases ro
 obtain ⟨t,rfl⟩:=ri;obtain ⟨its,n,r,ho,hz⟩:=I.lst hp;obtain ⟨h1,h2,h3,h4⟩:=uo hj;have hl:=r.length;have hn:=iL;have I':Inv X pins σ (upd H p (.lst (xs.set j v))) {s with heap:=s.heap.update p (Obj.mapSeq (·.setIfInBounds j u))}:=
  I.lstUpd hp ho (rS its n j u) (r.set rv j) (by rw [tw];exact hz) s.toks
 by_cases h0:0<=k
 ·have hk:k.toNat=j:=by rw [seqIndex_of h0 h4] at h1;exact Option.some.inj h1
  exact W.ki_setAt ho h0 Jlk (by rw [fc,<- hl];exact h4) (by rw [hk];exact zn _ I' q)
 ·have hk:(k+(its.toArray.size:Int)).toNat=j:=by rw [seqIndex_neg Jlk h3] at h1;rw [fc,<- hl];exact Option.some.inj h1
  exact W.ki_setBack ho Jlk (by rw [fc,<- hl];exact h3) Jlk (by rw [hk];exact zn _ I' q)
theorem nz(lo hi:Option Int)(n:Nat):(sliceBounds lo hi none n).1=((HT.sIx n 0 lo:Nat):Int)/\(sliceBounds lo hi none n).2.1=((HT.sIx n n hi:Nat):Int)/\(sliceBounds lo hi none n).2.2=1:=by
 refine zAB ?_ ?_ rfl
 ·cases lo with
  |none=>simp [sliceBounds,HT.sIx]
  |some i=>
   simp only [sliceBounds,HT.sIx,Option.getD_none,show (1:Int)>0 by decide,if_true]
   by_cases h:i<0
   ·simp only [h,if_true]<;>omega
   ·simp only [h,if_false]<;>omega
 ·cases hi with
  |none=>simp [sliceBounds,HT.sIx]
  |some i=>
   simp only [sliceBounds,HT.sIx,Option.getD_none,show (1:Int)>0 by decide,if_true]
   by_cases h:i<0
   ·simp only [h,if_true]<;>omega
   ·simp only [h,if_false]<;>omega
theorem kT(its:List Value)(lo hi:Option Int):slicePick its.toArray lo hi none=((its.drop (HT.sIx its.length 0 lo)).take (HT.sIx its.length its.length hi-HT.sIx its.length 0 lo)).toArray:=by obtain ⟨h1,h2,h3⟩:=nz lo hi its.toArray.size;unfold slicePick;rw [h1,h2,h3];simp only [sliceRange_one,pick_run,List.size_toArray]<;>rfl
def IU(K:W.Frag):V->Option Int->Option Int->Hp->VK->Prop:=fun x lo hi H Q=>∃a xs,x=.ref a/\SqL K H a xs/\∀p,H p=none->Q (.ref p) (upd H p (.lst (gf xs lo hi)))
theorem jx:SlR X (IU X.K):=by
 intro pins s σ H x v vl vu lo hi sl Q I rx hs pl pu h;obtain ⟨a,xs,rfl,hx,q⟩:=h
 cases rx
 obtain ⟨its,r,ht,hz⟩:=I.list hx;have hlen:=r.length;refine zAA ("list") _ slot_list_getitem.lookup ht.isList.typeIs ?_;refine wpAny_getItem_list_slice ht.isList hs pl pu .none Jll ?_ (by rw [List.size_toArray]<;>omega);rw [kT,<- hlen];refine zAA (.ref s.heap.objs.size) _ (I.laid (t':=s.toks) (o:=.lst (gf xs lo hi)) (fun b ob q=>cc _ q) (zq5 _) ?_) rfl (q _ (I.hok.fresh (zq5 _)));exact ⟨dI (j3 xs lo hi) hz,zAD _ 0 ((r.drop (HT.sIx xs.length 0 lo)).take (HT.sIx xs.length xs.length hi-HT.sIx xs.length 0 lo)) (du _ rfl)⟩
def bG:V->Bool
 | .non=>true
 | .bl _=>true
 | .int _=>true
 | .str _=>true
 |_=>false
def eqV:V->V->Bool
 | .non,.non=>true
 | .bl a,.bl b=>a==b
 | .bl a,.int b=>(if a then 1 else 0)==b
 | .int a,.bl b=>a==(if b then 1 else 0)
 | .int a,.int b=>a==b
 | .str a,.str b=>a==b
 |_,_=>false
theorem mJ{A:Around}{s:Shared}{y x:V}{u v:Value}(ry:RelV y u)(rx:RelV x v)(fy:bG y=true)(fx:bG x=true):SeqAt.EqAt A s u v (eqV y x):=by
 cases y with
 |non=>
  cases ry
  cases x with
  |non=>cases rx;exact SeqAt.EqAt.same _
  |bl b=>cases rx;exact SeqAt.EqAt.none_bool b
  |int b=>obtain ⟨t,rfl⟩:=rx;exact SeqAt.EqAt.none_int b t
  |str b=>obtain ⟨t,rfl⟩:=rx;exact SeqAt.EqAt.none_str b t
  |_=>exact absurd (show false=true from fx) bw
 |bl a=>
  cases ry
  cases x with
  |non=>cases rx;exact SeqAt.EqAt.bool_none a
  |bl b=>cases rx;exact SeqAt.EqAt.bool_bool a b
  |int b=>obtain ⟨t,rfl⟩:=rx;exact SeqAt.EqAt.bool_int a b t
  |str b=>obtain ⟨t,rfl⟩:=rx;exact SeqAt.EqAt.bool_str a b t
  |_=>exact absurd (show false=true from fx) bw
 |int a=>
  obtain ⟨t',rfl⟩:=ry
  cases x with
  |non=>cases rx;exact SeqAt.EqAt.int_none a t'
  |bl b=>cases rx;exact SeqAt.EqAt.int_bool a t' b
  |int b=>obtain ⟨t,rfl⟩:=rx;exact SeqAt.EqAt.int_int a t' b t
  |str b=>obtain ⟨t,rfl⟩:=rx;exact SeqAt.EqAt.int_str a t' b t
  |_=>exact absurd (show false=true from fx) bw
 |str a=>
  obtain ⟨t',rfl⟩:=ry
  cases x with
  |non=>cases rx;exact SeqAt.EqAt.str_none a t'
  |bl b=>cases rx;exact SeqAt.EqAt.str_bool a t' b
  |int b=>obtain ⟨t,rfl⟩:=rx;exact SeqAt.EqAt.str_int a t' b t
  |str b=>obtain ⟨t,rfl⟩:=rx;exact SeqAt.EqAt.str_str a t' b t
  |_=>exact absurd (show false=true from fx) bw
 |_=>exact absurd (show false=true from fy) bw
def eqU(x:V)(u:Value):Bool:=match u with
 | .none=>eqV .non x
 | .bool b=>eqV (.bl b) x
 | .int i _=>eqV (.int i) x
 | .str z _=>eqV (.str z) x
 |_=>false
theorem rJ{x y:V}{u:Value}(r:RelV y u)(f:bG y=true):eqU x u=eqV y x:=by
 cases y with
 |non=>cases r;rfl
 |bl b=>cases r;rfl
 |int i=>obtain ⟨t,rfl⟩:=r;rfl
 |str z=>obtain ⟨t,rfl⟩:=r;rfl
 |_=>exact absurd (show false=true from f) bw
theorem gM{x:V}:∀{xs:List V} {us:List Value},Vals xs us->xs.all bG=true->us.any (eqU x)=xs.any fun y=>eqV y x
 |_,_,.nil,_=>rfl
 |y::xs,u::us,.cons r t,f=>by rw [tD,eG] at f;rw [qW,qW,rJ r f.1,gM t f.2]
theorem eJ{A:Around}{s:Shared}{x:V}{v:Value}(rx:RelV x v)(fx:bG x=true):∀{xs:List V} {us:List Value},Vals xs us->xs.all bG=true->∀u∈us,SeqAt.EqAt A s u v (eqU x u)
 |_,_,.nil,_=>fun u hu=>by cases hu
 |y::xs,u::us,.cons r t,f=>fun u' hu=>by
  rw [tD,eG] at f;rcases zq12.mp hu with rfl | hu
  ·rw [rJ r f.1];exact mJ r rx f.1 fx
  ·exact eJ rx fx t f.2 u' hu
def inV(x:V)(xs:List V):Bool:=xs.any fun y=>eqV y x
def rIn(K:W.Frag)(neg:Bool):R2:=fun x y H Q=>∃p xs,y=.ref p/\(SqL K H p xs\/SqT K H p xs)/\bG x=true/\xs.all bG=true/\Q (.bl (if neg then ! inV x xs else inV x xs)) H
theorem dM:OpR X (compareOp .In) (rIn X.K false):=by
 intro pins s σ H x y v u Q I rx ry h;obtain ⟨p,xs,rfl,hq,fx,fs,q⟩:=h
 cases ry
 rcases hq with hq | hq
 ·obtain ⟨its,r,pl,hz⟩:=I.list hq;refine SeqAt.in_listAt (eqU x) pl.isList (fun w hw=>eJ rx fx r fs w (by simpa using hw)) (zAA (.bl _) H I rfl ?_);rw [show its.toArray.any (eqU x)=its.any (eqU x) by simp,gM r fs];exact q
 ·obtain ⟨its,r,pl,hz⟩:=I.tuple hq;refine SeqAt.in_tupleAt (eqU x) pl (fun w hw=>eJ rx fx r fs w (by simpa using hw)) (zAA (.bl _) H I rfl ?_);rw [show its.toArray.any (eqU x)=its.any (eqU x) by simp,gM r fs];exact q
theorem gY:OpR X (compareOp .NotIn) (rIn X.K true):=by
 intro pins s σ H x y v u Q I rx ry h;obtain ⟨p,xs,rfl,hq,fx,fs,q⟩:=h
 cases ry
 rcases hq with hq | hq
 ·obtain ⟨its,r,pl,hz⟩:=I.list hq;refine SeqAt.notIn_listAt (eqU x) pl.isList (fun w hw=>eJ rx fx r fs w (by simpa using hw)) (zAA (.bl _) H I rfl ?_);rw [show its.toArray.any (eqU x)=its.any (eqU x) by simp,gM r fs];exact q
 ·obtain ⟨its,r,pl,hz⟩:=I.tuple hq;refine SeqAt.notIn_tupleAt (eqU x) pl (fun w hw=>eJ rx fx r fs w (by simpa using hw)) (zAA (.bl _) H I rfl ?_);rw [show its.toArray.any (eqU x)=its.any (eqU x) by simp,gM r fs];exact q
theorem aM:dP X (.builtin "len") (fun xs H Q=>∃p ys,xs=[.ref p]/\(SqL X.K H p ys\/SqT X.K H p ys)/\Q (.int ys.length) H):=by
 intro pins s σ H xs us Q I r h;obtain ⟨p,ys,rfl,hq,q⟩:=h;obtain ⟨u,rfl,rx⟩:=fH r
 cases rx
 have hn:=iL;rcases hq with hq | hq
 ·obtain ⟨its,r',pl,hz⟩:=I.list hq;have hlen:=r'.length;exact Calls.call_len_list pl.isList (by simp only [List.size_toArray]<;>omega) (zAA (.int ys.length) H (I.tok _) ⟨s.toks+1,by rw [fc,hlen]⟩ q)
 ·obtain ⟨its,r',pl,hz⟩:=I.tuple hq;have hlen:=r'.length;exact len_tuple pl (by simp only [List.size_toArray]<;>omega) (zAA (.int ys.length) H (I.tok _) ⟨s.toks+1,by rw [fc,hlen]⟩ q)
theorem cQ:dP X (.type "list") (fun xs H Q=>∃p ys,xs=[.ref p]/\(SqL X.K H p ys\/SqT X.K H p ys)/\∀l,H l=none->Q (.ref l) (upd H l (.lst ys))):=by
 intro pins s σ H xs us Q I r h;obtain ⟨p,ys,rfl,hq,q⟩:=h;obtain ⟨u,rfl,rx⟩:=fH r
 cases rx
 have fin:∀(its:List Value),Vals ys its->ys.length<=sizeLine->∀(h':Heap)(c':Nat),(∀b o',s.heap.get? b=some o'->h'.get? b=some o')->
   h'.get? s.heap.objs.size=some {cls:=.type "list",dict:=none,data:=.seq its.toArray c',slots:=#[]}->EP X pins σ Q (.ref s.heap.objs.size) {s with heap:=h'}:=fun its r' hz h' c' kp e=>
  (zAA (.ref s.heap.objs.size) _ (I.laid (t':=s.toks) kp (zq5 _) (show ObjOk X.prog X.w _ h' _ (.lst ys) from ⟨hz,zAD its c' r' e⟩)) rfl (q _ (I.hok.fresh (zq5 _))))
 rcases hq with hq | hq
 ·obtain ⟨its,r',pl,hz⟩:=I.list hq;have hlen:=r'.length;obtain ⟨o,ho,hc,n,hd⟩:=pl.isList;exact call_list_seq p (.inl rfl) ho hc hd (fun h' c' kp e=>fin its r' hz h' c' kp e) (by simp only [List.size_toArray]<;>omega)
 ·obtain ⟨its,r',pl,hz⟩:=I.tuple hq;have hlen:=r'.length;obtain ⟨o,ho,hc,n,hd⟩:=pl;exact call_list_seq p (.inr rfl) ho hc hd (fun h' c' kp e=>fin its r' hz h' c' kp e) (by simp only [List.size_toArray]<;>omega)
theorem eD:dP X (.type "tuple") (fun xs H Q=>∃p ys,xs=[.ref p]/\((SqL X.K H p ys/\∀l,H l=none->Q (.ref l) (upd H l (.tup ys)))\/(SqT X.K H p ys/\Q (.ref p) H))):=by
 intro pins s σ H xs us Q I r h;obtain ⟨p,ys,rfl,h⟩:=h;obtain ⟨u,rfl,rx⟩:=fH r
 cases rx
 rcases h with ⟨hq,q⟩ | ⟨hq,q⟩
 ·obtain ⟨its,r',pl,hz⟩:=I.list hq;have hlen:=r'.length;refine call_tuple_list pl.isList (fun h' kp=>?_) (by simp only [List.size_toArray]<;>omega);have I1:Inv X pins σ H {s with heap:=h'}:=I.kept (t':=s.toks) kp;have I2:Inv X pins σ (upd H h'.objs.size (.tup ys)) {s with heap:=h'.push {cls:=.type "tuple",data:=.seq its.toArray}}:=
   I1.laid (t':=s.toks) (fun b o e=>cc _ e) (zq5 _) (show ObjOk X.prog X.w _ _ _ (.tup ys) from ⟨hz,zn its r' (IsTup.new _ _)⟩)
  exact zAA (.ref h'.objs.size) _ I2 rfl (q _ (I1.hok.fresh (zq5 _)))
 ·obtain ⟨its,r',pl,hz⟩:=I.tuple hq;exact call_tuple_same pl (zAA (.ref p) H I rfl q)
def tyV(K:W.Frag)(T:String)(x:V)(H:Hp):Prop:=match x with
 | .str _=>T="str"
 | .int _=>T="int"
 | .ref p=>(T="list"/\∃xs,SqL K H p xs)\/(T="tuple"/\∃o,K.lookup p=some o/\o.cls=.type "tuple"/\o.dict=none)\/
   (T="dict"/\((∃kvs,H p=some (.dK kvs))\/∃kvs,H p=some (.dT kvs)))\/(T="set"/\∃S n,H p=some (.set S n))
 |_=>False
theorem sX{pins:List (Addr×Obj)}{σ:St}{H:Hp}{s:Shared}{T:String}{x:V}{v:Value}(I:Inv X pins σ H s)(r:RelV x v)(ty:tyV X.K T x H):
  s.TypeIs v T/\∀a,v=.ref a->∃ob,s.heap.get? a=some ob/\ob.dict=none:=by
 cases x with
 |str z=>
  obtain ⟨t,rfl⟩:=r
  cases (show T="str" from ty)
  exact ⟨typeIs_str s z t,fun _ e=>nomatch e⟩
 |int i=>
  obtain ⟨t,rfl⟩:=r
  cases (show T="int" from ty)
  exact ⟨typeIs_int s i t,fun _ e=>nomatch e⟩
 |ref p=>
  cases r
  rcases ty with ⟨rfl,xs,hq⟩ | ⟨rfl,o,hk,hc,hd⟩ | ⟨rfl,hk⟩ | ⟨rfl,S,n,hk⟩
  ·obtain ⟨its,_,pl,_⟩:=I.list hq;refine ⟨pl.isList.typeIs,fun a e=>?_⟩
   cases e
   obtain ⟨o,n,e,c,hd,_⟩:=pl;exact zn o e hd
  ·refine ⟨zn o (I.kIn p o hk) hc,fun a e=>?_⟩
   cases e
   exact zn o (I.kIn _ o hk) hd
  ·have z:∃o,s.heap.get? p=some o/\o.ExactDict:=by
    rcases hk with ⟨kvs,hk⟩ | ⟨kvs,hk⟩
    ·obtain ⟨_,_,_,_,o,_,_,e,ex,_⟩:=I.hok p _ hk;exact zn o e ex
    ·obtain ⟨_,_,_,_,o,_,_,e,ex,_⟩:=I.hok p _ hk;exact zn o e ex
   obtain ⟨o,e,ex⟩:=z;refine ⟨zn o e ex.1,fun a e2=>?_⟩
   cases e2
   exact zn o e ex.2.1
  ·obtain ⟨o,_,_,_,e,ex,_⟩:=I.hok p _ hk;refine ⟨zn o e ex.1,fun a e2=>?_⟩
   cases e2
   exact zn o e ex.2.1
 |_=>exact False.elim ty
def JA(K:W.Frag)(T:String)(r:V->List V->Hp->VK->Prop)(to:TE):TE:=fun σ H Q=>to σ H fun x H1=>tyV K T x H1/\r x [] H1 Q
def tBM(K:W.Frag)(T:String)(r:V->List V->Hp->VK->Prop)(to:TE)(t:TA):TE:=fun σ H Q=>to σ H fun x H1=>tyV K T x H1/\t σ H1 fun xs H2=>r x xs H2 Q
variable {o e:Expr} {es:List Expr} {to:TE} {t:TA} {name:Str} {apos cpos:Pos} {T id:String} {r:V->List V->Hp->VK->Prop}
theorem IL(pa:PlainAttrs T)(slot:Slot T name id)(hty:typeOf (.builtin id)=pure (.type "method_descriptor")) (hm:MtR X id r) (ho:PE X o to) (ha:PA X (e::es) t)
  (hbase:attributeBase o name X.env (eval o X.env)=eval o X.env:=by rfl)
  (hfew:((backTo cpos (starEach (e::es) X.env)).all (fun x=>! x.1)&&(backToKw cpos (keywordEach [] X.env)).all (fun x=>x.1.isSome)
   && decide ((e::es).length+([]:List Keyword).length+(if ([]:List Keyword).isEmpty then 0 else 1)<30))=true:=by rfl)
  (hline:(apos.endLine==cpos.line)=true:=by rfl) (hs:starEach (e::es) X.env=(false,eval e X.env)::starEach es X.env:=by rfl) (hplain:(backTo cpos (starEach es X.env)).any (·.1)=false:=by rfl) :
  PE X (.Call (.Attribute o name apos) (e::es) [] cpos) (tBM X.K T r to t):=by
 intro pins s σ H Q I h;refine wpAny_Call_method_late hbase hfew hline rfl (thn (ho pins s σ H _ I h) fun v s1 hhx=>?_);obtain ⟨x,H1,I1,r1,ty,q1⟩:=hhx;obtain ⟨h1,h2⟩:=sX I1 r1 ty;refine zBB T id pa slot hty h1 h2 ?_;have hA:=ha cpos pins s1 σ H1 _ I1 q1;rw [hs] at hA ⊢;refine Calls.callWith_builtin (by show (false || (backTo cpos (starEach es X.env)).any (·.1))=false;rw [hplain]<;>rfl) (Calls.evalArgs_plain ?_);exact thn hA fun us s2 ⟨vs,H2,I2,r2,q2⟩=>hm pins s2 σ H2 x vs v us Q I2 r1 r2 q2
/- xs.append(e),list.index on a module's tuple .. are MtR facts of 06m -/
end
end L2
namespace L2
def MtM(X:Cx)(id:String)(r:V->List V->Hp->VK->Prop):Prop:=
 ∀(pins:List (Addr×Obj)) (s:Shared) (σ:St) (H:Hp) (x:V) (xs:List V) (v:Value) (us:List Value) (Q:VK),Inv X pins σ H s->RelV x v->Vals xs us->r x xs H Q->
  wpAny (model X.prog X.w) X.A (call (.builtin id) (v::us)) (EP X pins σ Q) X.xe s
theorem Vals.one:∀{x:V} {us:List Value},Vals [x] us->∃u,us=[u]/\RelV x u
 |_,_,.cons r .nil=>zn _ rfl r
theorem Vals.zero:∀{us:List Value},Vals [] us->us=[]
 |_,.nil=>rfl
theorem Vals.dropLast{xs:List V}{us:List Value}(h:Vals xs us):Vals xs.dropLast us.dropLast:=by
 induction h with
 |nil=>exact .nil
 |cons r t ih=>
  cases t with
  |nil=>exact .nil
  |cons q t'=>exact .cons r ih
theorem rK{α:Type}(l:List α):l.eraseIdx (l.length-1)=l.dropLast:=by
 induction l with
 |nil=>rfl
 |cons a r ih=>
  cases r with
  |nil=>rfl
  |cons b r=>
   have e:(a::b::r).length-1=((b::r).length-1)+1:=by have h1:(a::b::r).length=r.length+2:=rfl;have h2:(b::r).length=r.length+1:=rfl;omega
   rw [e,List.eraseIdx_cons_succ,ih]
   all_goals rfl
section
variable {X:Cx} {pins:List (Addr×Obj)} {σ:St} {H:Hp} {s:Shared} {l b:Addr} {xs ys zs:List V}
theorem Inv.lset{its its':List Value}{n:Nat}{f:Array Value->Array Value}{t':Nat}(I:Inv X pins σ H s)(hH:H l=some (.lst xs))
  (e:s.heap.get? l=some {cls:=.type "list",data:=.seq its.toArray n}) (hf:f its.toArray=its'.toArray) (hv:Vals ys its') (hz:ys.length<=sizeLine) :
  Inv X pins σ (upd H l (.lst ys)) {s with heap:=s.heap.update l (Obj.mapSeq f),toks:=t'}:=by
 have q:=PySem.IsL.update e f;rw [hf] at q;refine I.write (x:=l) (e:=l) (by rw [hH];exact trivial) (.inl rfl) (fun b' u hb hu=>(EQ s.heap (Obj.mapSeq f) (Ne.symm hb)).trans hu) ⟨_,q⟩ ?_;exact ⟨hz,zAD its' _ hv q⟩
theorem Inv.lnew{its:List Value}{t':Nat}(I:Inv X pins σ H s)(hv:Vals ys its)(hz:ys.length<=sizeLine):
  Inv X pins σ (upd H s.heap.objs.size (.lst ys)) {s with heap:=s.heap.push {cls:=.type "list",data:=.seq its.toArray},toks:=t'}:=
 I.laid (fun _ _ q=>cc _ q) (zq5 _) ⟨hz,zAD its 0 hv (du _ rfl)⟩
theorem Inv.fresh(I:Inv X pins σ H s):H s.heap.objs.size=none:=I.hok.fresh (zq5 _)
theorem Inv.lstM(I:Inv X pins σ H s)(hH:H l=some (.lst xs)):xs.length<=sizeLine/\∃(its:List Value)(n:Nat),Vals xs its/\xs.length=its.length/\s.heap.get? l=some {cls:=.type "list",data:=.seq its.toArray n}:=by obtain ⟨z,its,n,r,e⟩:=I.hok l _ hH;exact ⟨z,zAA its n r r.length e⟩
theorem yG{n:Nat}(h:n<=sizeLine):Builtin.List.listTooLong n=false:=by unfold Builtin.List.listTooLong;exact bC Jlk
end
section
variable {X:Cx}
def uJ:V->List V->Hp->VK->Prop:=fun x vs H Q=>∃l xs y,x=.ref l/\vs=[y]/\H l=some (.lst xs)/\xs.length<sizeLine/\Q .non (upd H l (.lst (xs++[y])))
theorem aZ:MtM X "list.append" uJ:=by
 intro pins s σ H x vs v us Q I rx rv h;obtain ⟨l,xs,y,rfl,rfl,hH,hz,q⟩:=h
 cases rx
 obtain ⟨u,rfl,ru⟩:=rv.one;obtain ⟨z,its,n,r,hl,e⟩:=I.lstM hH;refine call_meets F.slot_list_append (zn _ e rfl) F.entry_list_append (F.args_list_append_2 _ _) (PySem.list_append l its.toArray n u (by rw [fc];omega)) ⟨e,?_⟩;refine zAA .non _ (I.lset (its':=its++[u]) hH e Jll (r.append (.cons ru .nil)) ?_) rfl q;rw [zq7,bV];omega
def CM:V->List V->Hp->VK->Prop:=fun x vs H Q=>∃l b xs zs,x=.ref l/\vs=[.ref b]/\H l=some (.lst xs)/\H b=some (.lst zs)/\xs.length+zs.length<=sizeLine/\Q .non (upd H l (.lst (xs++zs)))
theorem wF:MtM X "list.extend" CM:=by
 intro pins s σ H x vs v us Q I rx rv h;obtain ⟨l,b,xs,zs,rfl,rfl,hH,hB,hz,q⟩:=h
 cases rx
 obtain ⟨u,rfl,ru⟩:=rv.one
 cases ru
 obtain ⟨z,its,n,r,hl,e⟩:=I.lstM hH;obtain ⟨z2,its2,n2,r2,hl2,e2⟩:=I.lstM hB;have hsz:its.toArray.size+its2.toArray.size<=sizeLine:=by rw [fc,fc];omega
 have hlong:¬(! its.toArray.isEmpty&&Builtin.List.listTooLong (its.toArray.size+its2.toArray.size))=true:=by rw [yG hsz,Bool.and_false];exact bw
 refine call_meets F.slot_list_extend (zn _ e rfl) F.entry_list_extend (F.args_list_extend_2 _ _)
  (AutoSeq1.list_extend_list_list_0 l its.toArray n b its2.toArray n2 hlong (by rw [fc];omega) Jlk) (zAB e e2 ?_)
 refine zAA .non _ (I.lset (its':=its++its2) hH e Jll (r.append r2) ?_) rfl q;rw [zq7];omega
def IR:V->List V->Hp->VK->Prop:=fun x vs H Q=>∃l xs y,x=.ref l/\vs=[]/\H l=some (.lst xs)/\xs[xs.length-1]?=some y/\Q y (upd H l (.lst xs.dropLast))
theorem rT:MtM X "list.pop" IR:=by
 intro pins s σ H x vs v us Q I rx rv h;obtain ⟨l,xs,y,rfl,rfl,hH,hy,q⟩:=h
 cases rx
 have hus:=rv.zero;subst hus;obtain ⟨z,its,n,r,hl,e⟩:=I.lstM hH;obtain ⟨u,hu,ru⟩:=r.get hy;have hy':its.toArray[its.toArray.size-1]?=some u:=by show its.toArray[its.length-1]?=some u;rw [<- vD,<- hl];exact hu
 refine call_meets F.slot_list_pop (zn _ e rfl) F.entry_list_pop (F.args_list_pop_1 _) (MeetsSeq.list_pop_last l its.toArray n u hy' (by rw [fc];omega)) ⟨e,?_⟩;refine zAA y _ (I.lset (its':=its.dropLast) hH e ?_ r.dropLast ?_) ru q
 ·show its.toArray.eraseIdxIfInBounds (its.toArray.size-1)=its.dropLast.toArray;rw [fc,List.eraseIdxIfInBounds_toArray,rK]
 ·rw [nN];omega
def IN:R2:=fun x y H Q=>∃l b xs zs,x=.ref l/\y=.ref b/\H l=some (.lst xs)/\H b=some (.lst zs)/\xs.length+zs.length<=sizeLine/\∀p,H p=none->Q (.ref p) (upd H p (.lst (xs++zs)))
theorem f6:OpR X (binaryOp .Add) IN:=by
 intro pins s σ H x y v u Q I rx ry h;obtain ⟨l,b,xs,zs,rfl,rfl,hH,hB,hz,q⟩:=h
 cases rx
 cases ry
 obtain ⟨z,its,n,r,hl,e⟩:=I.lstM hH;obtain ⟨z2,its2,n2,r2,hl2,e2⟩:=I.lstM hB;refine PySem.P.add_list e e2 ?_ (by rw [fc,fc];omega);have ea:its.toArray++its2.toArray=(its++its2).toArray:=by simp
 rw [ea];exact zAA (.ref _) _ (I.lnew (t':=s.toks) (r.append r2) (by rw [zq7];omega)) rfl (q _ I.fresh)
end
section
variable {prog:Program} {w:World} {A:Around} {E:Value->Shared->Prop} {s:Shared}
end
section
variable {X:Cx}
end
end L2
namespace L2
section
variable {κ:Type} [DecidableEq κ]
def bh(kvs:List (κ×V))(k:κ):Option V:=(kvs.find? fun kv=>decide (kv.1=k)).map (·.2)
def bo(kvs:List (κ×V))(k:κ)(v:V):List (κ×V):=
 if (kvs.any fun kv=>decide (kv.1=k))=true then kvs.map (fun kv=>if kv.1=k then (kv.1,v) else kv) else kvs++[(k,v)]
theorem bB{p:κ×V}{r:List (κ×V)}{k:κ}(e:p.1=k):bh (p::r) k=some p.2:=by simp [bh,List.find?_cons,e]
theorem bv{p:κ×V}{r:List (κ×V)}{k:κ}(e:¬p.1=k):bh (p::r) k=bh r k:=by simp [bh,List.find?_cons,e]
theorem cI(k:κ):∀kvs:List (κ×V),(kvs.any fun kv=>decide (kv.1=k))=(bh kvs k).isSome
 | []=>rfl
 |p::r=>by
  rw [qW]
  by_cases e:p.1=k
  ·simp only [bB e,decide_eq_true e,Bool.true_or,Option.isSome_some]
  ·rw [bv e,bC e,AZ];exact cI k r
theorem qE(k j:κ)(y:V):∀kvs:List (κ×V),bh (kvs.map fun kv=>if kv.1=k then (kv.1,y) else kv) j=(bh kvs j).map fun x=>if j=k then y else x
 | []=>rfl
 |p::r=>by
  have ih:=qE k j y r;rw [ce]
  by_cases h:p.1=k
  ·rw [zq1 h]
   by_cases e:p.1=j
   ·rw [bB (p:=(p.1,y)) e,bB e,tE,zq1 (e.symm.trans h)]
   ·rw [bv (p:=(p.1,y)) e,bv e,ih]
  ·rw [zq0 h]
   by_cases e:p.1=j
   ·rw [bB (p:=p) e,bB e,tE,zq0 (fun z=>h (e.trans z))]
   ·rw [bv (p:=p) e,bv e,ih]
theorem mr(k j:κ)(y:V):∀kvs:List (κ×V),bh kvs k=none->bh (kvs++[(k,y)]) j=if j=k then some y else bh kvs j
 | [],_=>by
  by_cases e:k=j
  ·rw [zq1 e.symm];exact bB (p:=(k,y)) e
  ·rw [zq0 (fun z=>e z.symm)];exact bv (p:=(k,y)) e
 |p::r,hn=>by
  rw [Bz];have hk:¬p.1=k:=fun z=>by rw [bB z] at hn;cases hn
  rw [bv hk] at hn;have ih:=mr k j y r hn
  by_cases e:p.1=j
  ·rw [bB e,bB e,zq0 (fun z=>hk (e.trans z))]
  ·rw [bv e,bv e,ih]
theorem qF(kvs:List (κ×V))(k j:κ)(y:V):bh (bo kvs k y) j=if j=k then some y else bh kvs j:=by
 unfold bo
 by_cases a:(kvs.any fun kv=>decide (kv.1=k))=true
 ·rw [zq1 a,qE];rw [cI] at a
  by_cases e:j=k
  ·obtain ⟨x,hx⟩:=zq158.mp a;rw [zq1 e,e,hx,tE,zq1 rfl]
  ·rw [zq0 e]
   cases bh kvs j with
   |none=>rfl
   |some x=>rw [tE,zq0 e]
 ·rw [zq0 a];refine mr k j y kvs ?_;rw [cI] at a
  cases q:bh kvs k with
  |none=>rfl
  |some x=>rw [q] at a;exact (a rfl).elim
theorem cO(kvs:List (κ×V))(k:κ)(v:V):(bo kvs k v).length<=kvs.length+1:=by
 unfold bo
 split
 ·rw [zq3];omega
 ·rw [zq7,cW,BA];omega
theorem pT{kvs:List (κ×V)}{k:κ}(v:V)(h:bh kvs k=none):bo kvs k v=kvs++[(k,v)]:=by unfold bo;rw [cI,h];exact zq0 Jkm
theorem RelO.isSome_eq{o:Option V}{u:Option Value}(r:RelO o u):o.isSome=u.isSome:=by
 cases o with
 |none=>cases u with
  |none=>rfl
  |some _=>exact (show False from r).elim
 |some _=>cases u with
  |none=>exact (show False from r).elim
  |some _=>rfl
theorem RelO.getD{o:Option V}{u:Option Value}{d:V}{d':Value}(r:RelO o u)(rd:RelV d d'):RelV (o.getD d) (u.getD d'):=by
 cases o with
 |none=>cases u with
  |none=>exact rd
  |some _=>exact (show False from r).elim
 |some _=>cases u with
  |none=>exact (show False from r).elim
  |some _=>exact r
theorem KV.val{kvs:List (κ×V)}{vs:List (κ×Value)}(r:KV kvs vs)(k:κ):RelO (bh kvs k) (valueAt vs k):=by
 unfold KV at r
 induction r with
 |nil=>exact True.intro
 | @cons p q ps qs h t ih=>
  obtain ⟨h1,h2⟩:=h
  by_cases e:p.1=k
  ·have e':q.1=k:=h1.symm.trans e;have b:valueAt (q::qs) k=some q.2:=by simp [valueAt,List.find?_cons,e']
   rw [bB e,b];exact h2
  ·have e':¬q.1=k:=fun z=>e (h1.trans z);have b:valueAt (q::qs) k=valueAt qs k:=by simp [valueAt,List.find?_cons,e']
   rw [bv e,b];exact ih
theorem KV.any{kvs:List (κ×V)}{vs:List (κ×Value)}(r:KV kvs vs)(k:κ):(kvs.any fun kv=>decide (kv.1=k))=vs.any fun kv=>decide (kv.1=k):=by
 unfold KV at r
 induction r with
 |nil=>rfl
 |cons h t ih=>rw [qW,qW,ih,h.1]
theorem KV.repl{kvs:List (κ×V)}{vs:List (κ×Value)}(r:KV kvs vs)(k:κ){y:V}{u:Value}(ry:RelV y u):
  KV (kvs.map fun kv=>if kv.1=k then (kv.1,y) else kv) (vs.map fun kv=>if kv.1=k then (kv.1,u) else kv):=by
 unfold KV at r ⊢
 induction r with
 |nil=>exact .nil
 | @cons p q ps qs h t ih=>
  rw [ce,ce];refine .cons ?_ ih;obtain ⟨h1,h2⟩:=h
  by_cases e:p.1=k
  ·rw [zq1 e,zq1 (h1.symm.trans e)];exact ⟨h1,ry⟩
  ·rw [zq0 e,zq0 (fun z=>e (h1.trans z))];exact ⟨h1,h2⟩
theorem KV.put{kvs:List (κ×V)}{vs:List (κ×Value)}(r:KV kvs vs)(k:κ){y:V}{u:Value}(ry:RelV y u):KV (bo kvs k y) (stored vs k u):=by
 unfold bo stored;rw [r.any k]
 by_cases e:(vs.any fun kv=>decide (kv.1=k))=true
 ·rw [zq1 e,zq1 e];exact r.repl k ry
 ·rw [zq0 e,zq0 e];exact Paired.snoc r ⟨rfl,ry⟩
theorem KV.keys{kvs:List (κ×V)}{vs:List (κ×Value)}(r:KV kvs vs):kvs.map (·.1)=vs.map (·.1):=by
 unfold KV at r
 induction r with
 |nil=>rfl
 |cons h t ih=>rw [ce,ce,ih,h.1]
theorem KV.length{kvs:List (κ×V)}{vs:List (κ×Value)}(r:KV kvs vs):kvs.length=vs.length:=Paired.length r
end
theorem lQ{P:Program}{w:World}{k:Key}{u:Value}(r:RelV (kV k) u):(bi P w).is k u=true:=by
 cases k with
 |inl i=>obtain ⟨t,e⟩:=(show ∃t,u=Value.int i t from r);subst e;exact pD P w i t
 |inr x=>obtain ⟨t,e⟩:=(show ∃t,u=Value.str x t from r);subst e;exact pE P w x t
theorem lP{P:Program}{w:World}:∀{ks:List Key} {us:List Value},Vals (ks.map kV) us->ItemsAre (bi P w) ks us
 | [],_,r=>by rw [xu] at r;cases r;exact .nil
 |k::ks,_,r=>by
  rw [ce] at r
  cases r with
  |cons h t=>exact .cons (lQ h) (lP t)
abbrev KT (H:Hp):List (List Key×V)->List (List Key×Addr×Value)->Prop:=Paired fun p q=>p.1=q.1/\H q.2.1=some (.tup (p.1.map kV))/\RelV p.2 q.2.2
theorem KT.val{H:Hp}{kvs:List (List Key×V)}{xs:List (List Key×Addr×Value)}(r:KT H kvs xs)(k:List Key):RelO (bh kvs k) ((atKey xs k).map (·.2)):=by
 induction r with
 |nil=>exact True.intro
 | @cons p q ps qs h t ih=>
  obtain ⟨h1,_,h2⟩:=h
  by_cases e:p.1=k
  ·have e':q.1=k:=h1.symm.trans e;have b:atKey (q::qs) k=some q.2:=by simp [atKey,List.find?_cons,e']
   rw [bB e,b];exact h2
  ·have e':¬q.1=k:=fun z=>e (h1.trans z);have b:atKey (q::qs) k=atKey qs k:=by simp [atKey,List.find?_cons,e']
   rw [bv e,b];exact ih
theorem KT.repl{H:Hp}{kvs:List (List Key×V)}{xs:List (List Key×Addr×Value)}(r:KT H kvs xs)(k:List Key){y:V}{u:Value}(ry:RelV y u):
  KT H (kvs.map fun kv=>if kv.1=k then (kv.1,y) else kv) (xs.map (putAt k u)):=by
 induction r with
 |nil=>exact .nil
 | @cons p q ps qs h t ih=>
  rw [ce,ce];refine .cons ?_ ih;obtain ⟨h1,h2,h3⟩:=h;unfold putAt
  by_cases e:p.1=k
  ·rw [zq1 e,zq1 (h1.symm.trans e)];exact zAB h1 h2 ry
  ·rw [zq0 e,zq0 (fun z=>e (h1.trans z))];exact zAB h1 h2 h3
theorem KT.put{H:Hp}{kvs:List (List Key×V)}{xs:List (List Key×Addr×Value)}(r:KT H kvs xs)(k:List Key){b:Addr}{y:V}{u:Value}(hb:H b=some (.tup (k.map kV)))(ry:RelV y u):
  KT H (bo kvs k y) (storedH xs k b u):=by
 have e:(kvs.any fun kv=>decide (kv.1=k))=(atKey xs k).isSome:=by rw [cI,(r.val k).isSome_eq,Option.isSome_map]
 unfold bo storedH;rw [e]
 by_cases q:(atKey xs k).isSome=true
 ·rw [zq1 q,zq1 q];exact r.repl k ry
 ·rw [zq0 q,zq0 q];exact Paired.snoc r (zAB rfl hb ry)
theorem KT.keeps{H H':Hp}{kvs:List (List Key×V)}{xs:List (List Key×Addr×Value)}(r:KT H kvs xs)(ht:∀b ys,H b=some (.tup ys)->H' b=some (.tup ys)):KT H' kvs xs:=
 Paired.mapP r fun _ _ z=>zAB z.1 (ht _ _ z.2.1) z.2.2
section
variable {P:Program} {w:World} {H:Hp} {h:Heap} {a:Addr}
theorem DH{u:HO}(ok:HOk P w H h)(e:Rd H a u):ObjOk P w H h a u:=e.ok ok
theorem fg{kvs:List (Key×V)}(ok:HOk P w H h)(e:Rd H a (.dK kvs)):kvs.length<=sizeLine/\(a==sysModules)=false/\∃vs,KV kvs vs/\h.DictOf (bi P w) a vs:=
 show ObjOk P w H h a (.dK kvs) from DH ok e
theorem Ds{kvs:List (Key×V)}(ok:HOk P w H h)(e:H a=some (.dK kvs)):kvs.length<=sizeLine/\(a==sysModules)=false/\∃vs,KV kvs vs/\h.DictOf (bi P w) a vs:=fg ok (.inl e)
theorem iI{ks:List Key}(ok:HOk P w H h)(e:H a=some (.tup (ks.map kV))):(tupleKind (bi P w)).is h ks a:=by
 obtain ⟨_,its,r,o,h1,h2,n,h3⟩:=(show ObjOk P w H h a (.tup (ks.map kV)) from ok a _ e)
 exact zAO o its.toArray n h1 h2 h3 (by simpa using lP r)
theorem oP{kvs:List (List Key×V)}(ok:HOk P w H h)(e:Rd H a (.dT kvs)):kvs.length<=sizeLine/\(a==sysModules)=false/\
  ∃xs,KT H kvs xs/\h.DictOfH (tupleKind (bi P w)) a xs:=by
 obtain ⟨z,y,xs,r,o,es,ep,h1,h2,h3,h4,h5⟩:=(show ObjOk P w H h a (.dT kvs) from DH ok e)
 refine zAB z y (zn xs r (zBD o es ep h1 h2 h3 h4 (fun x hx=>?_) h5));have all:∀{l:List (List Key×V)} {m:List (List Key×Addr×Value)},KT H l m->∀x∈m,(tupleKind (bi P w)).is h x.1 x.2.1:=by
  intro l m q
  induction q with
  |nil=>intro x hx;exact nomatch hx
  | @cons p q ps qs hq t ih=>
   intro x hx;rcases zq12.mp hx with e | hx
   ·subst e;exact iI ok (by rw [<- hq.1];exact hq.2.1)
   ·exact ih x hx
 exact all r x hx
theorem ye{kvs:List (List Key×V)}(ok:HOk P w H h)(e:H a=some (.dT kvs)):kvs.length<=sizeLine/\(a==sysModules)=false/\
  ∃xs,KT H kvs xs/\h.DictOfH (tupleKind (bi P w)) a xs:=oP ok (.inl e)
end
def DGet(H:Hp)(a:Addr)(y:V)(r:Option V):Prop:=
 (∃kvs k,Rd H a (.dK kvs)/\y=kV k/\r=bh kvs k)\/∃kvs k b,Rd H a (.dT kvs)/\y=.ref b/\H b=some (.tup (k.map kV))/\r=bh kvs k
def DPut(H:Hp)(a:Addr)(y v:V)(H':Hp):Prop:=
 (∃kvs k,H a=some (.dK kvs)/\y=kV k/\kvs.length<sizeLine/\H'=upd H a (.dK (bo kvs k v)))\/
 ∃kvs k b,H a=some (.dT kvs)/\y=.ref b/\H b=some (.tup (k.map kV))/\kvs.length<sizeLine/\H'=upd H a (.dT (bo kvs k v))
theorem DGet.k{H:Hp}{a:Addr}{kvs:List (Key×V)}{k:Key}(e:H a=some (.dK kvs)):DGet H a (kV k) (bh kvs k):=.inl (zAA kvs k (.inl e) rfl rfl)
theorem DGet.t{H:Hp}{a b:Addr}{kvs:List (List Key×V)}{k:List Key}(e:H a=some (.dT kvs))(eb:H b=some (.tup (k.map kV))):DGet H a (.ref b) (bh kvs k):=.inr (zAO kvs k b (.inl e) rfl eb rfl)
theorem DPut.k{H:Hp}{a:Addr}{kvs:List (Key×V)}{k:Key}{v:V}(e:H a=some (.dK kvs))(hl:kvs.length<sizeLine):DPut H a (kV k) v (upd H a (.dK (bo kvs k v))):=.inl (zAE kvs k e rfl hl rfl)
section
variable {X:Cx} {pins:List (Addr×Obj)} {σ:St} {H:Hp} {s:Shared} {a:Addr} {y v:V} {u r:Value} {o:Option V} {A:Around} {E:Value->Shared->Prop}
theorem Inv.big(I:Inv X pins σ H s):sysModules<s.heap.objs.size:=by have h:mainGlobals<s.heap.objs.size:=(I.mod.glob.keeps I.bk).lt;exact Nat.lt_trans Jkm h
theorem vZ{Q:Value->Shared->Prop}(hu:A.units+1<cLine)(I:Inv X pins σ H s)(g:DGet H a y (some v))(ry:RelV y u)(h:∀w' s',Inv X pins σ H s'->RelV v w'->Q w' s'):
  wpAny (model X.prog X.w) A (getItem (.ref a) u) Q E s:=by
 rcases g with ⟨kvs,k,e,ey,l⟩ | ⟨kvs,k,b,e,ey,eb,l⟩
 ·subst ey;obtain ⟨z,hd,vs,rel,dd⟩:=fg I.hok e;obtain ⟨w',hw,rw'⟩:=RelO.some_of (v:=v) (o:=valueAt vs k) (by rw [l];exact rel.val k);exact wpAny_getItem_of (lQ ry) dd.mapOf hw (h w' _ (I.tok _) rw')
 ·subst ey
  cases (show u=Value.ref b from ry)
  obtain ⟨z,hd,xs,rel,dd⟩:=oP I.hok e;obtain ⟨w',hw,rw'⟩:=RelO.some_of (v:=v) (o:=(atKey xs k).map (·.2)) (by rw [l];exact rel.val k);obtain ⟨p,hp,hp2⟩:=zq42.mp hw;refine wpAny_getItem_heap (tupleKind_room_in1 hu) (iI I.hok eb) dd hp ?_;rw [hp2];exact h w' _ (I.tok _) rw'
theorem BX{Q:Value->Shared->Prop}(hu:A.units+1<cLine)(I:Inv X pins σ H s)(g:DGet H a y o)(ry:RelV y u)(h:∀s',Inv X pins σ H s'->Q (.bool (! o.isSome)) s'):
  wpAny (model X.prog X.w) A (compareOp .NotIn u (.ref a)) Q E s:=by
 rcases g with ⟨kvs,k,e,ey,l⟩ | ⟨kvs,k,b,e,ey,eb,l⟩
 ·subst ey;obtain ⟨z,hd,vs,rel,dd⟩:=fg I.hok e;refine wpAny_notIn_of (lQ ry) hd dd.mapOf ?_;rw [<- (rel.val k).isSome_eq,<- l];exact h _ (I.tok _)
 ·subst ey
  cases (show u=Value.ref b from ry)
  obtain ⟨z,hd,xs,rel,dd⟩:=oP I.hok e;refine wpAny_notIn_heap (tupleKind_room_in1 hu) (iI I.hok eb) hd dd ?_;have q:=(rel.val k).isSome_eq;rw [Option.isSome_map] at q;rw [<- q,<- l];exact h _ (I.tok _)
theorem fN{h':Heap}{t':Nat}{ob:HO}(I:Inv X pins σ H s)(mu:Mut (H a))(hs:Heap.SameBut a s.heap h')(he:∃q,h'.get? a=some q)(new:ObjOk X.prog X.w (upd H a ob) h' a ob):
  Inv X pins σ (upd H a ob) {s with heap:=h',toks:=t'}:=
 I.write (x:=a) (e:=a) mu (.inl rfl) (fun b q hb z=>(hs.2 b hb).trans z) he new
theorem mI{P:Program}{w:World}{H':Hp}{h':Heap}{kvs:List (Key×V)}{vs:List (Key×Value)}(z:kvs.length<=sizeLine)(hd:(a==sysModules)=false)(rel:KV kvs vs)(dd:h'.DictOf (bi P w) a vs):
  ObjOk P w H' h' a (.dK kvs):=zAB z hd (zn vs rel dd)
theorem w5{H':Hp}{Q:Unit->Shared->Prop}(hu:A.units+1<cLine)(I:Inv X pins σ H s)(g:DPut H a y v H')(ry:RelV y u)(rv:RelV v r)(h:∀s',Inv X pins σ H' s'->Q () s'):
  wpAny (model X.prog X.w) A (setItem (.ref a) u r) Q E s:=by
 rcases g with ⟨kvs,k,e,ey,l,eH⟩ | ⟨kvs,k,b,e,ey,eb,l,eH⟩
 ·subst ey eH;obtain ⟨z,hd,vs,rel,dd⟩:=Ds I.hok e;have hz:vs.length<=sizeLine:=by rw [<- rel.length];exact z
  have hl:(bo kvs k v).length<=sizeLine:=by have:=cO kvs k v;omega
  refine wpAny_setItem_pairs (hsz:=hz) (lQ ry) dd fun h' dd' hs=>h _ ?_;have he:∃q,h'.get? a=some q:=let ⟨q,_,_,hq,_⟩:=dd';⟨q,hq⟩;exact fN I (by rw [e];exact True.intro) hs he (mI hl hd (rel.put k rv) dd')
 ·subst ey eH
  cases (show u=Value.ref b from ry)
  obtain ⟨z,hd,xs,rel,dd⟩:=ye I.hok e;have hz:xs.length<=sizeLine:=by rw [<- Paired.length rel];exact z
  have hl:(bo kvs k v).length<=sizeLine:=by have:=cO kvs k v;omega
  refine wpAny_setItem_heap (hsz:=hz) (tupleKind_room_in1 hu) (iI I.hok eb) dd fun h' dd' hs=>h _ ?_;obtain ⟨q,es,ep,hq,h2,h3,h4,_,h5⟩:=dd';refine fN I (by rw [e];exact True.intro) hs ⟨q,hq⟩ (zAB hl hd (zn _ ((rel.put k eb rv).keeps fun c ys ec=>?_) (zAL q es ep hq h2 h3 h4 h5)));rw [ao (bL ec e (fun z=>nomatch z))];exact ec
end
section
variable {X:Cx} {pins:List (Addr×Obj)} {σ:St} {H:Hp} {s:Shared} {a:Addr} {kvs:List (Key×V)} {k:Key} {u:Value} {A:Around} {E:Value->Shared->Prop}
theorem Im{Q:Value->Shared->Prop}(I:Inv X pins σ H s)(e:Rd H a (.dK kvs))(h:∀t s',Inv X pins σ H s'->Q (.int kvs.length t) s'):wpAny (model X.prog X.w) A (call (.builtin "len") [.ref a]) Q E s:=by obtain ⟨z,hd,vs,rel,dd⟩:=fg I.hok e;refine call_len_dict hd dd (by rw [<- rel.length];rw [zq8] at z;omega) ?_;rw [<- rel.length];exact h _ _ (I.tok _)
end
def F1(i:Expr):Prop:=∀ov iv,subscripted i false ov iv=operate [ov,iv] (getItem ov iv)
theorem vn{prog:Program}{w:World}{A:Around}{E:Value->Shared->Prop}{s:Shared}{env:Env}{value slice:Expr}{pos:Pos}{T id:String}{Q:Value->Shared->Prop}
  (hl:typeLookup (.type T) "__getitem__"=pure (some (.builtin id))) (hs:F1 slice)
  (h:wpAny (model prog w) A (eval value env) (fun o s₁=>wpAny (model prog w) A (eval slice env) (fun i s₂=>s₂.TypeIs o T/\wpAny (model prog w) A (getItem o i) Q E s₂) E s₁) E s) :
  wpAny (model prog w) A (eval (.Subscript value slice pos) env) Q E s:=by
 refine Subscript_ (iw h (fun o s₁ h₁=>iw h₁ (fun i s₂ h₂=>?_) fun _ _ x=>x) fun _ _ x=>x);obtain ⟨hT,h₂⟩:=h₂;unfold subscriptTail;refine zq2 ?_;rw [getitemInPython_of_ne hT.not_modules];refine zq2 (wpAny_specialOf hT hl ?_);have fin:wpAny (model prog w) A (subscripted slice false o i) (fun r s₃=>wpAny (model prog w) A (letTemporaryGo value o r >>= fun _=>pure r) Q E s₃) E s₂:=by rw [hs o i];exact wpAny_operating (iw h₂ (fun r s₃ h₃=>zq2 (wpAny_letTemporaryGo (zq4 h₃))) fun _ _ x=>x)
 first
  |exact zq4 (zq2 fin)
  |exact zq2 (zq4 (zq2 fin))
  |exact zq2 fin
theorem oM{X:Cx}{pins:List (Addr×Obj)}{σ:St}{H:Hp}{s:Shared}{a:Addr}{y:V}{o:Option V}(I:Inv X pins σ H s)(g:DGet H a y o):s.TypeIs (.ref a) "dict":=by
 rcases g with ⟨kvs,k,e,_,_⟩ | ⟨kvs,k,b,e,_,_,_⟩
 ·obtain ⟨_,_,vs,_,dd⟩:=fg I.hok e;exact dd.typeIs
 ·obtain ⟨_,_,xs,_,dd⟩:=oP I.hok e;exact dd.typeIs
def EI(td ty:TE):TE:=fun σ H Q=>td σ H fun x H1=>ty σ H1 fun y H2=>∃a v,x=.ref a/\DGet H2 a y (some v)/\Q v H2
def nC(ty td:TE):TE:=fun σ H Q=>ty σ H fun y H1=>td σ H1 fun x H2=>∃a o,x=.ref a/\DGet H2 a y o/\Q (.bl (! o.isSome)) H2
def A5(td ty tv:TE):TS:=fun D σ H=>tv σ H fun v H1=>td σ H1 fun x H2=>ty σ H2 fun y H3=>∃a H4,x=.ref a/\DPut H3 a y v H4/\D.nx σ H4
section
variable {X:Cx} {o i e value:Expr} {pos pos' tpos:Pos} {td ty tv:TE}
theorem CK(hu:X.A.units+1<cLine)(ho:PE X o td)(hi:PE X i ty)(hv:PE X value tv)(hs:swapsWith value (some (.Subscript o i pos')) pos.line X.env=pure false):
  PS X (.Assign [.Subscript o i pos'] value pos) (A5 td ty tv):=by
 intro pins s σ H D I h;refine wpAny_Assign_Subscript (thn (hv pins s σ H _ I h) fun r s1 ⟨v,H1,I1,rv,q1⟩=>thn (ho pins s1 σ H1 _ I1 q1) fun u s2 ⟨x,H2,I2,rx,q2⟩=>thn (hi pins s2 σ H2 _ I2 q2) fun iv s3 hhx=>?_) hs;obtain ⟨y,H3,I3,ry,a,H4,ex,g,q3⟩:=hhx;subst ex;obtain rfl:u=Value.ref a:=rx;exact w5 hu I3 g ry rv fun s4 I4=>zAD σ H4 I4 q3
end
theorem oN{P:Program}{w:World}{H:Hp}(h:Heap)(hb:sysModules<h.objs.size):ObjOk P w H (h.push {cls:=.type "dict",data:=.dict #[]}) h.objs.size (.dK []):=
 (zAB (cq _) (beq_eq_false_iff_ne.mpr (Ne.symm (cF hb))) (zn ([]) .nil (Heap.DictOf.new h)))
theorem oO{P:Program}{w:World}{H:Hp}(h:Heap)(hb:sysModules<h.objs.size):ObjOk P w H (h.push {cls:=.type "dict",data:=.dict #[]}) h.objs.size (.dT []):=
 (zAB (cq _) (beq_eq_false_iff_ne.mpr (Ne.symm (cF hb))) (zn ([]) .nil (zAL _ (#[]) 0 (du _ rfl) (zAB rfl rfl rfl) rfl rfl BB)))
def Ax:TE:=fun _ H Q=>∀p,H p=none->Q (.ref p) (upd H p (.dK []))
def Az:TE:=fun _ H Q=>∀p,H p=none->Q (.ref p) (upd H p (.dT []))
section
variable {X:Cx} {pos:Pos}
end
def gJ:List (TE×TE)->St->Hp->(List (V×V)->Hp->Prop)->Prop
 | [],_,H,Q=>Q [] H
 | (tk,tv)::r,σ,H,Q=>tk σ H fun x H1=>tv σ H1 fun y H2=>gJ r σ H2 fun ps H3=>Q ((x,y)::ps) H3
abbrev VV:List (V×V)->List (Value×Value)->Prop:=Paired fun p q=>RelV p.1 q.1/\RelV p.2 q.2
def PPs(X:Cx)(pos:Pos)(keys:List (Option Expr))(values:List Expr)(trs:List (TE×TE)):Prop:=
 ∀(pins:List (Addr×Obj)) (s:Shared) (σ:St) (H:Hp) (Q:List (V×V)->Hp->Prop),Inv X pins σ H s->gJ trs σ H Q->
  wpAny (model X.prog X.w) X.A (evalPairs (pairTrees keys values X.env pos)) (fun vs s'=>∃ps H',Inv X pins σ H' s'/\VV ps vs/\Q ps H') X.xe s
theorem CJ{X:Cx}{pos:Pos}:PPs X pos [] [] []:=fun pins s σ H Q I h=>pairTrees_nil_walk (zAA ([]) H I .nil h)
theorem kf{X:Cx}{pos:Pos}{k v:Expr}{ks:List (Option Expr)}{vs:List Expr}{tk tv:TE}{trs:List (TE×TE)}(hk:PE X k tk)(hv:PE X v tv)(hr:PPs X pos ks vs trs):
  PPs X pos (some k::ks) (v::vs) ((tk,tv)::trs):=fun pins s σ H Q I h=>
 pairTrees_cons_walk (thn (hk pins s σ H _ I h) fun u s1 ⟨x,H1,I1,rx,q1⟩=>thn (hv pins s1 σ H1 _ I1 q1) fun w2 s2 ⟨y,H2,I2,ry,q2⟩=>thn (hr pins s2 σ H2 _ I2 q2) fun ws s3 ⟨ps,H3,I3,rel,q3⟩=>zAA ((x,y)::ps) H3 I3 (.cons ⟨rx,ry⟩ rel) q3)
def gG(kvs more:List (Key×V)):List (Key×V):=more.foldl (fun acc kv=>bo acc kv.1 kv.2) kvs
theorem KV.merge:∀{more:List (Key×V)} {rs:List (Key×Value)} {kvs:List (Key×V)} {vs:List (Key×Value)},KV more rs->KV kvs vs->KV (gG kvs more) (merged vs rs):=by
 intro more rs kvs vs r;unfold KV at r
 induction r generalizing kvs vs with
 |nil=>intro q;exact q
 | @cons p q ps qs h t ih=>
  intro r0;have e:KV (bo kvs p.1 p.2) (stored vs q.1 q.2):=by have:=r0.put p.1 h.2;rw [<- h.1];exact this
  exact ih e
theorem gv:∀(more kvs:List (Key×V)),(gG kvs more).length<=kvs.length+more.length
 | [],kvs=>by show kvs.length<=kvs.length+0;omega
 |p::r,kvs=>by have h1:=gv r (bo kvs p.1 p.2);have h2:=cO kvs p.1 p.2;show (gG (bo kvs p.1 p.2) r).length<=_;rw [cW];omega
theorem jH{P:Program}{w:World}:∀{kvs:List (Key×V)} {ws:List (Value×Value)},VV (kvs.map fun kv=>(kV kv.1,kv.2)) ws->∃rs,Carries (bi P w) ws rs/\KV kvs rs
 | [],_,r=>by rw [xu] at r;cases r;exact zn ([]) True.intro .nil
 |p::kvs,_,r=>by
  rw [ce] at r
  cases r with
  | @cons a b as bs h t=>obtain ⟨rs,c,q⟩:=jH (P:=P) (w:=w) t;obtain ⟨b1,b2⟩:=b;exact zn ((p.1,b2)::rs) (zAB (lQ h.1) rfl c) (.cons ⟨rfl,h.2⟩ q)
def EJ(trs:List (TE×TE)):TE:=fun σ H Q=>∀p,H p=none->gJ trs σ (upd H p (.dK [])) fun ps H2=>H2 p=some (.dK [])/\∃kvs:List (Key×V),ps=kvs.map (fun kv=>(kV kv.1,kv.2))/\kvs.length<=15/\Q (.ref p) (upd H2 p (.dK (gG [] kvs)))
structure M1(X:Cx)(o:Expr)(m:Str)(apos:Pos)(e:Expr)(cpos:Pos):Prop where
 base:attributeBase o m X.env (eval o X.env)=eval o X.env
 few:((backTo cpos (starEach [e] X.env)).all (fun x=>! x.1)&&(backToKw cpos (keywordEach [] X.env)).all (fun x=>x.1.isSome)
  && decide (([e]:List Expr).length+([]:List Keyword).length+(if ([]:List Keyword).isEmpty then 0 else 1)<30))=true
 line:(apos.endLine==cpos.line)=true
 trees:backTo cpos (starEach [e] X.env)=[(false,eval e X.env)]
def IsD(H:Hp)(a:Addr):Prop:=(∃kvs,Rd H a (.dK kvs))\/∃kvs,Rd H a (.dT kvs)
theorem Fk{X:Cx}{pins:List (Addr×Obj)}{σ:St}{H:Hp}{s:Shared}{a:Addr}(I:Inv X pins σ H s)(d:IsD H a):
  s.TypeIs (.ref a) "dict"/\(∀b,Value.ref a=.ref b->∃ob,s.heap.get? b=some ob/\ob.dict=none)/\(a==sysModules)=false:=by
 rcases d with ⟨kvs,e⟩ | ⟨kvs,e⟩
 ·obtain ⟨_,hd,vs,_,dd⟩:=fg I.hok e;refine zAB dd.typeIs (fun b q=>?_) hd
  cases q
  obtain ⟨ob,_,_,h1,h2,_⟩:=dd;exact zn ob h1 h2.2.1
 ·obtain ⟨_,hd,xs,_,dd⟩:=oP I.hok e;refine zAB dd.typeIs (fun b q=>?_) hd
  cases q
  obtain ⟨ob,_,_,h1,h2,_⟩:=dd;exact zn ob h1 h2.2.1
section
variable {X:Cx} {pins:List (Addr×Obj)} {σ:St} {H:Hp} {s:Shared} {a:Addr} {y d:V} {u r:Value} {o:Option V} {A:Around} {E:Value->Shared->Prop}
end
section
variable {X:Cx} {o e f:Expr} {apos cpos:Pos} {td ty tx:TE}
end
section
variable {X:Cx} {pins:List (Addr×Obj)} {σ:St} {H:Hp} {s:Shared} {a:Addr} {kvs:List (Key×V)} {A:Around} {E:Value->Shared->Prop}
end
section
variable {X:Cx} {pins:List (Addr×Obj)} {σ:St} {H:Hp} {s:Shared} {a:Addr} {y:V} {u:Value} {A:Around} {E:Value->Shared->Prop}
end
end L2
end
namespace Att
open PySem PySem.W PySem.Calls PyProof.Rows
theorem ji{P:Params}{h:Heap}:∀(ns:List Int)(vs:List Value),WellAll P h vs (ns.map WData.int)->IntsAre vs ns:=by
 intro ns
 induction ns with
 |nil=>
  intro vs w;rw [xu] at w
  cases w
  exact .nil
 |cons n ns ih=>
  intro vs w;rw [ce] at w
  cases w with
  |cons a b=>
   cases a
   exact .cons _ _ (ih _ b)
theorem xf{l:OpenLaw}{n:Nat}(hn:l.most=some n){P:Params}{h:Heap}{args:List WData}{vals:List Value}
  (hpre:l.row.toRowW.claim.pre args=true) (hwl:WellAll P h vals args) :
  ∃a vs ns,vals=[Value.ref a]/\args=[WData.list (ns.map WData.int)]/\h.get? a=some {cls:=.type "list",data:=.seq vs.toArray}/\IntsAre vs ns/\ns.length<=n:=by
 have hsh:WShape.hasAll [] args [.list .int]=true:=(pre_splitW hpre).1;have hc:l.pre.holds [] {args:=args}=true:=(pre_splitW hpre).2;obtain ⟨d,r,rfl,h1,h2⟩:=hasAllW_cons hsh;obtain rfl:=hasAllW_nil h2;obtain ⟨xs,rfl,h3⟩:=hasW_list h1;obtain ⟨ns,rfl⟩:=items_int h3;have hlen:ns.length<=n:=by
  unfold OpenLaw.pre at hc;have h4:(WTm.not (.lt (.lit (.int (n:Int))) (.len (.arg 0)))).holds [] {args:=[.list (ns.map .int)]}=true:=by have h4:=(holds_andW hc).1;rw [hn] at h4;exact h4
  have h5:=condW_of h4 (w_not (w_lt w_lit (w_len_list (w_arg rfl))));rw [zq3] at h5;refine Nat.le_of_not_lt fun q=>?_;have q':(n:Int)<((ns.length:Nat):Int):=by omega
  first
   | (rw [cf q'] at h5;exact absurd h5 Jkm)
   | (simp at h5;omega)
 cases hwl with
 |cons w1 w2=>
  cases w2
  cases w1 with
  |list ho hall=>exact zAL _ _ ns rfl rfl ho (ji ns _ hall) hlen
theorem wW(l:OpenLaw)(args:List WData):l.row.toRowW.claim.post args (.bool true) args=true:=
 postW_of (r:=l.row.toRowW) (X:=(true==true))
  (show WShape.has [] (.bool true) .bool=true by first | rfl | decide | simp [WShape.has,WShape.arms,WShape.armsAll])
  (show (WTm.eq .res (.lit (.bool true))).value [] {args:=args,res:=some (.bool true),after:=args}=some (.bool (true==true)) from w_eq_bool (w_res rfl) w_lit) rfl
section
variable {prog:Program} {w:World} {A:Around} {E:Value->Shared->Prop} {s:Shared} {K:Frag}
end
end Att
namespace L2
open PySem PySem.Spec PyProof.Rows
theorem iQ:∀{vs:List Value} {ns:List Int},IntsAre vs ns->Vals (ns.map V.int) vs
 |_,_,.nil=>.nil
 |_,_,.cons n t h=>.cons ⟨t,rfl⟩ (iQ h)
def F2(H:Hp):Prop:=∀b,H b=none\/∃o xs,H b=some (.frz o (.lst xs))
theorem yx{P:Program}{w:World}{K:W.Frag}{mg mb:Str->Option Value}{CX:CXT}{k:Nat}{fa a:Addr}{fd:FuncData}{x:Str}{sp:Sp}{s₁:Shared}{vs:List Value}{ns:List Int}
  (KX:K.In s₁.heap) (hns:s₁.heap.Ns mainGlobals mg) (hb:s₁.heap.Ns builtinsNs mb) (hbb:∀x:Str,x≠"__name__"->mb x=bootBuiltins x) (hlim:s₁.heap.NoLimit) (hg:s₁.gens=#[])
  (ha:s₁.heap.get? a=some {cls:=.type "list",data:=.seq vs.toArray}) (hi:IntsAre vs ns) (hl:ns.length<=sizeLine) (hr:Room k callerA)
  (F:∀base:Heap,K.In base->base.Ns mainGlobals mg->FnOk P w K mg base CX k fa fd [x] sp) (hbind:∀(s:Shared)(u:Value),BindsTo s fd ⟨[u],[]⟩ [(x,u)])
  (hsp:∀H:Hp,F2 H->SqL K H a (ns.map V.int)->sp [.ref a] H (fun v _=>v=.bl true) fun _ _ _=>False)
  (hCX:∀H e s',CX [] H s₁ (fun _ _ _=>False) e s'->False) :
  codeAny (model P w) callerA (.call (.ref fa) ⟨[.ref a],[]⟩) (fun r s'=>r=.ok (.ret (.bool true))/\OldK s₁.heap s'.heap/\s'.os=s₁.os/\AllBare s'.gens) s₁:=by
 have rv:=iQ hi;have lenV:=hi.length;have core:∀H:Hp,F2 H->SqL K H a (ns.map V.int)->HOk P w H s₁.heap->(∀b,H b≠none->b=a)->(H a≠none->K.lookup a=none)->
   codeAny (model P w) callerA (.call (.ref fa) ⟨[.ref a],[]⟩) (fun r s'=>r=.ok (.ret (.bool true))/\OldK s₁.heap s'.heap/\s'.os=s₁.os/\AllBare s'.gens) s₁:=by
  intro H hO hS hok hA hK;have base_of:∀{b:Addr} {o:Obj},s₁.heap.get? b=some o->H b=none->(mN s₁.heap H).get? b=some o:=fun e n=>yq e n;have noA:∀{b:Addr} {o:Obj} {es:Array DictEntry} {ep:Nat},s₁.heap.get? b=some o->o.data=.dict es ep->H b=none:=fun {b o es ep} e d=>by
   cases q:H b with
   |none=>rfl
   |some u=>
    have e':b=a:=hA b (by rw [q];simp);subst e';rw [ha] at e;cases e;have d':Data.seq vs.toArray _=Data.dict es ep:=d
    cases d'
  have nsK:∀{b:Addr} {m:Str->Option Value},s₁.heap.Ns b m->(mN s₁.heap H).Ns b m:=fun {b m} ⟨o,es,ep,e,d,r⟩=>zAN o es ep (base_of e (noA e d)) d r
  have hKb:K.In (mN s₁.heap H):=fun b o e=>base_of (KX b o e) (by
   cases q:H b with
   |none=>rfl
   |some u=>have e':b=a:=hA b (by rw [q];simp);subst e';rw [hK (by rw [q];simp)] at e;cases e)
  have hM:Mod K mg (mN s₁.heap H):=⟨hKb,nsK hns,zn mb (nsK hb) hbb,let ⟨mc,h1,h2⟩:=hlim;(zn mc (nsK h1) h2)⟩
  have e0:Env0 P w K mg (mN s₁.heap H) callerA [] s₁ H:=⟨rfl,hM,fun b o e=>Ck e,Nat.le_of_eq (wl _ _),trivial,fun b hb=>absurd (show b∈([]:List Addr) from hb) Jll,hok,.of_eq hg⟩
  refine codeAny_mono ((F _ hKb (nsK hns)).run callerA [] s₁ H ⟨[.ref a],[]⟩ [.ref a] [.ref a] _ _ hr e0 (hbind s₁ (.ref a)) (.cons rfl .nil) (hsp H hO hS)) fun r s' h=>?_
  cases r with
  |error e=>exact (hCX H e s' h).elim
  |ok fl=>
   cases fl with
   |next=>exact False.elim h
   |brk=>exact False.elim h
   |cont=>exact False.elim h
   |ret u=>
    obtain ⟨v,H',os,bare,un,hok',r',q⟩:=h;have q':v=.bl true:=q;subst q';obtain rfl:u=Value.bool true:=r';refine zAF rfl (OldK.of_keep fun b o e=>?_) os bare
    cases q:H b with
    |none=>exact un.keep b o e q (by intro z;exact absurd (show b∈([]:List Addr) from z) Jll) Jll
    |some u=>
     rcases hO b with z | ⟨ob,xs,z⟩
     ·rw [q] at z;cases z
     ·have z2:=un.frzs b ob _ z;obtain ⟨e1,_⟩:=hok b _ z;obtain ⟨e2,_⟩:=hok' b _ z2;rw [e] at e1;cases e1;exact e2
 cases hk:K.lookup a with
 |some o=>
  have e:=KX a o hk;rw [ha] at e
  cases e
  refine core (fun _=>none) (fun _=>.inl rfl) (.inr (zBD _ vs.toArray _ hk rfl rfl rfl (by rw [fc,lenV];exact hl) (by simpa using rv))) (fun b u z=>by have z':(none:Option HO)=some u:=z;cases z') (fun b z=>absurd rfl z) fun z=>absurd rfl z
 |none=>
  refine core (fun b=>if b=a then some (.frz {cls:=.type "list",data:=.seq vs.toArray} (.lst (ns.map V.int))) else none) (fun b=>?_) (.inl (.inr ⟨{cls:=.type "list",data:=.seq vs.toArray},zq1 rfl⟩)) (fun b u z=>?_) (fun b z=>?_) fun _=>hk
  ·by_cases hb:b=a
   ·exact .inr (zAH _ _ (zq1 hb))
   ·exact .inl (zq0 hb)
  ·by_cases hb:b=a
   ·have z':=(zq1 hb).symm.trans z
    cases z'
    subst hb;exact zAB ha (by rw [zq3];exact hl) (zAD vs _ rv ha)
   ·have z':=(zq0 hb).symm.trans z
    cases z'
  ·by_cases hb:b=a
   ·exact hb
   ·exact absurd (zq0 hb) z
end L2
namespace L2
open PySem PySem.Spec PyProof.Rows
end L2
/- THE LAST THEOREM (shape;LID,My.* are yours):
   My.Adr: a structure of the addresses that your layer names (classes,functions);My.Txt K t: a structure (Prop) of the equations over K;
   My.txt_mk:{K} {implicit addresses ..} (e1:nsIn K mainGlobals "law"=some (some (.ref f))) (e2:K.lookup f=some ⟨oc,od,.func (fnOf "law" "law" params body scope dV kV doc pm an cdv ct),sl⟩) (e3:codeIn K cdv "law"=true) ..:∃t,My.Txt K t
set_option maxRecDepth 100000 in
set_option maxHeartbeats 0 in
theorem PySem.Challenge.cw_LID_holds:PySem.Challenge.rw_LID.Holds:=by
 w_on;o_law;k_head;(case hw=>w_witness2)
 k_fill
 refine L2.walk_of (l:=PySem.Challenge.rw_LID) (n:=63) (k:=40) (x:="script") (CX:=fun w=>..) (sp:=fun _=>My.sp_law) rfl Jkm rfl ⟨rfl,Jkm,Jkm⟩ (fun w h Y=>W.kIn_of Y) ?F ?S ?C
 case F=>
  intro w mg fa h KX G hmg;have T:∃t,My.Txt (L2.KOf KX) t:=by
   dsimp only [L2.KOf]                          -- K must stand as «<heap const> w.params» for k_is;refine' My.txt_mk ?e1 ?e2 ?e3 ..
   (case e1=>W.k_is)                    -- in the order: a name->its address->its object->its parts
   (case e2=>W.k_is)
   ..
  obtain ⟨t,T⟩:=T;have e0:=hmg.symm.trans (W.mg_of KX G T.law)
  cases e0                                       -- fa is the law's own address
  exact ⟨_,fun s u=>.of_eq rfl,fun base kb nb=>My.law_fn T kb nb⟩     -- if «.of_eq rfl» comes too early: refine' ⟨_,?b,fun base kb nb=>My.law_fn T kb nb⟩;exact fun s u=>.of_eq rfl
 case S=>exact fun w H a ns hl hO hS=>..
 case C=>exact ..
(the tactic k_is has no namespace: write k_is) -/
section
open PySem PySem.Spec PyProof.Rows
namespace L2
variable {H:Hp} {f:Addr} {qual x:Str}
def bX(s:Stmt)(j:Nat):Stmt:=match s with
 | .ClassDef _ _ _ body _ _ _ _ _ _ _=>body.getD j (.Pass ⟨0,0,0,0⟩)
 |_=>.Pass ⟨0,0,0,0⟩
def dB(s:Stmt):Arguments:=match s with
 | .FunctionDef _ a _ _ _ _ _ _ _ _=>a
 |_=>{posonlyargs:=[],args:=[],vararg:=none,kwonlyargs:=[],kw_defaults:=[],kwarg:=none,defaults:=[]}
def d7(s:Stmt):List Stmt:=match s with
 | .FunctionDef _ _ b _ _ _ _ _ _ _=>b
 |_=>[]
def ax(s:Stmt):Scope:=match s with
 | .FunctionDef _ _ _ _ _ _ sc _ _ _=>sc
 |_=>{kind:=.function,names:=[],isGenerator:=false,isCoroutine:=false}
abbrev CX0:CXT:=fun _ _ _ _ _ _=>False
abbrev E0:XK:=fun _ _ _=>False
theorem pQ{X:Cx}:eO CX0 X E0:=fun _ _ _ _ _ _ _ h=>h.elim
structure Fun(K:W.Frag)(x qual:Str)(st:Stmt)(f:Addr)(fd:FuncData):Prop where
 ex:∃(oc:Value)(od:Option Addr)(kV doc pm:Value)(an:Option Addr)(cdv ct:Value)(osl:Array (Option Value)),
  fd=W.fnOf x qual (dB st) (d7 st) (ax st) .none kV doc pm an cdv ct/\K.lookup f=some ⟨oc,od,.func fd,osl⟩/\W.codeIn K cdv qual=true
 kp:W.keepIn K (.ref f)=true
section
variable {P:Program} {w:World} {K:W.Frag} {mg:Str->Option Value} {base:Heap}
theorem Fun.ok{st:Stmt}{fd:FuncData}{N ps:List Str}{k:Nat}{sp:Sp}(F:Fun K x qual st f fd)(S:aE N ps (ax st))(len:∀vs H Q E,sp vs H Q E->vs.length=ps.length)
 (hbody:∀(cdv:Value)(A:Around)(outer:List Env)(s:Shared)(H:Hp)(vs:List V)(Q:VK)(E:XK),Room k (A.deeper (envOfC qual (ax st) s.heap.objs.size f cdv))->sp vs H Q E->
 ∃t,PSs (oG CX0 P w K mg base N qual (ax st) f cdv A outer s H E).nox (d7 st) t/\t {nx:=fun _ H'=>Q .non H',rt:=Q} (aO N vs) H):FnOk P w K mg base CX0 (k+1) f fd ps sp:=by
 obtain ⟨oc,od,kV,doc,pm,an,cdv,ct,osl,rfl,lk,hcd⟩:=F.ex;refine Iq lk hcd S len fun A outer s H vs Q E hr hsp=>?_;obtain ⟨t,h,q⟩:=hbody cdv A outer s H vs Q E hr hsp;exact zn t h.nox q
theorem Fun.binds{st:Stmt}{fd:FuncData}{ps:List Str}(F:Fun K x qual st f fd)
 (h:∀(kV doc pm:Value)(an:Option Addr)(cdv ct:Value)(us:List Value),us.length=ps.length->bindArgs (W.fnOf x qual (dB st) (d7 st) (ax st) .none kV doc pm an cdv ct) ⟨us,[]⟩=pure (ps.zip us)):Binds K fd ps []:=by
 obtain ⟨oc,od,kV,doc,pm,an,cdv,ct,osl,rfl,lk,hcd⟩:=F.ex;exact .all (h kV doc pm an cdv ct)
theorem mL{st:Stmt}{oc:Value}{od an:Option Addr}{osl:Array (Option Value)}{kV doc pm cdv ct:Value}(l:K.lookup f=some ⟨oc,od,.func (W.fnOf x qual (dB st) (d7 st) (ax st) .none kV doc pm an cdv ct),osl⟩)
 (c:W.codeIn K cdv qual=true) (k:W.keepIn K (.ref f)=true):Fun K x qual st f (W.fnOf x qual (dB st) (d7 st) (ax st) .none kV doc pm an cdv ct):=⟨zBC oc od kV doc pm an cdv ct osl (zAB rfl l c),k⟩
end
theorem fi{A:Around}{k:Nat}(hr:Room k A):A.units+1<cLine:=qX (vE (by decide:1<=64) _) hr.units
section
variable {X:Cx}
end
theorem JX{A B:Prop}(h:B):if false=true then A else B:=by rw [zq0 bw];exact h
theorem JY{A B:Prop}(h:A):if true=true then A else B:=by rw [zq1 rfl];exact h
def Same(H H':Hp):Prop:=∀b o,H b=some o->H' b=some o
theorem Same.refl(H:Hp):Same H H:=fun _ _ h=>h
theorem Same.trans{H1 H2:Hp}(a:Same H H1)(b:Same H1 H2):Same H H2:=fun c o h=>b c o (a c o h)
theorem Same.free{H':Hp}(e:Same H H'){l:Addr}(h:H' l=Option.none):H l=Option.none:=by
 cases q:H l with
 |none=>rfl
 |some o=>
  rw [e l o q] at h
  cases h
theorem Same.seq{K:W.Frag}{H':Hp}{a:Addr}{xs:List V}(e:Same H H')(h:SqL K H a xs):SqL K H' a xs:=by
 rcases h with (h | ⟨o,h⟩) | h
 ·exact .inl (.inl (e _ _ h))
 ·exact .inl (.inr ⟨o,e _ _ h⟩)
 ·exact .inr h
end L2
namespace L2
section
variable {X:Cx}
theorem vR:dP X (.builtin "len") (fun xs H Q=>∃a kvs,xs=[V.ref a]/\H a=some (.dK kvs)/\Q (.int kvs.length) H):=by
 intro pins s σ H xs us Q I r h;obtain ⟨a,kvs,rfl,ha,q⟩:=h;obtain ⟨u,rfl,ru⟩:=fH r
 cases ru
 exact Im I (.inl ha) fun t s' I'=>zAA (.int kvs.length) H I' ⟨t,rfl⟩ q
end
section
variable {κ:Type} [DecidableEq κ]
theorem AJ{kvs:List (κ×V)}{k:κ}(h:bh kvs k=none):¬k∈kvs.map (·.1):=by intro m;obtain ⟨p,hp,e⟩:=zq36.mp m;have q:(kvs.any fun kv=>decide (kv.1=k))=true:=zq100.mpr (zn p hp (cf e));rw [cI,h] at q;exact absurd q Jll
theorem uw:∀{l:List κ} {k:κ},l.Nodup->¬k∈l->(l++[k]).Nodup
 | [],k,_,_=>by simp
 |a::r,k,h,hk=>by
  obtain ⟨h1,h2⟩:=zq34.mp h;show (a::(r++[k])).Nodup;refine zq34.mpr ⟨fun m=>?_,uw h2 fun m=>hk (zq12.mpr (Or.inr m))⟩;rcases zq18.mp m with q | q
  ·exact h1 q
  ·exact hk (zq12.mpr (Or.inl (zq10.mp q).symm))
theorem Ce{kvs:List (κ×V)}{k:κ}(v:V)(hn:(kvs.map (·.1)).Nodup)(h:bh kvs k=none):((bo kvs k v).map (·.1)).Nodup:=by rw [pT v h,cg];exact uw hn (AJ h)
end
end L2
namespace L2
section
variable {X:Cx}
def CDivB(i j:Int):Prop:=0<j/\j.natAbs.log2<9000
theorem z9:OpR X (binaryOp .FloorDiv) (rI CDivB fun i j=>.int (i / j)):=opI fun i j _ _ _ _ _ hc q=>by have h1:(0:Int)<j:=hc.1;exact floordiv_int Jlk (by rw [Int.fdiv_eq_ediv_of_nonneg i Jlk];exact q) (.inl (PyProof.noPylong_of_log2 hc.2))
theorem Cy:OpR X (binaryOp .Mult) (rI IntMulOk fun i j=>.int (i * j)):=opI fun _ _ _ _ _ _ _ hc q=>mul_int q hc
theorem CDivB.small{i j:Int}(h:0<j)(h2:j<1073741824):CDivB i j:=⟨h,by have h3:j.natAbs.log2<30:=(Nat.log2_lt Jlk).mpr Jlk;omega⟩
end
theorem aB{c A B:Prop}[Decidable c](h1:c->A)(h2:¬c->B):if decide c=true then A else B:=by
 by_cases h:c
 ·rw [zq1 (cf h)];exact h1 h
 ·rw [zq0 (fun q=>h (of_decide_eq_true q))];exact h2 h
theorem pd{c A B:Prop}[Decidable c](h1:¬c->A)(h2:c->B):if (! decide c)=true then A else B:=by
 by_cases h:c
 ·rw [cf h];exact JX (h2 h)
 ·rw [bC h];exact JY (h1 h)
structure bc(K:W.Frag)(mg:Str->Option Value)(x:Str)(st:Stmt)(ps:List Str)(f:Addr)(fd:FuncData):Prop where
 F:Fun K x x st f fd
 B:Binds K fd ps []
 M:mg x=some (.ref f)
theorem zg{X:Cx}{k:Nat}{f:Addr}{fd:FuncData}{ps:List Str}{sp:Sp}{x:Str}{st:Stmt}{p pos:Pos}{e:Expr}{es:List Expr}{t:TA}(D:bc X.K X.mg x st ps f fd)(G:FnOk X.prog X.w X.K X.mg X.base CX0 k f fd ps sp)(hr:Room k X.A)
  (ha:PA X (e::es) t) (hg:Gl X x:=by rfl) (hdb:(x==("__debug__":Str))=false:=by decide) (he:starEach (e::es) X.env=(false,eval e X.env)::starEach es X.env:=by rfl) (hpl:(backTo pos (starEach es X.env)).any (·.1)=false:=by rfl) :
  PE X (.Call (.Name x p) (e::es) [] pos) (qz sp [] E0 t):=CB G hr hg D.M D.F.kp D.B .nil pQ ha hdb he hpl
def Ite(K:W.Frag)(a:Addr):It:=
  ⟨fun i H=>∃xs x,SqL K H a xs/\xs[i]?=some x,
   fun i H x H'=>∃p y,x=.ref p/\H p=none/\H'=upd H p (.tup [.int i,y])/\∀xs,SqL K H a xs->xs[i]?=some y,
   fun i H=>∃xs,SqL K H a xs/\xs.length<=i⟩
theorem xi{P:Program}{w:World}{K:W.Frag}{elts:List Expr}{k0:Nat}{pos0:Pos}(a e it:Addr)(hei:e≠it):
  kM P w K (.Tuple elts k0 pos0) (Ite K a) [e,it] e (fun i h=>(∃old,IsEnum h e it i old)/\h.IsListIter it a i) where
 mem:=by simp
 obj:=fun i h ⟨⟨old,he⟩,hit⟩ b hb=>by
  rcases zq12.mp hb with rfl | hb
  ·exact ⟨_,he,fun v z=>by
    have z':Data.fields _=Data.cell v:=z
    cases z'⟩
  ·have e':b=it:=by simpa using hb
   subst e';obtain ⟨o,q,c,d⟩:=hit;exact zn o q (fun v z=>by rw [d] at z;cases z)
 keep:=fun i h h' ⟨⟨old,he⟩,hit⟩ k=>⟨⟨old,k e Jll _ he⟩,hit.at fun o q=>k it Jll o q⟩
 item:=by
  intro X hP hw hK hc i pins s σ H E I hf st hg;subst hP hw hK;obtain ⟨xs,x,hq,hx⟩:=hg;obtain ⟨its,rv,p,hz⟩:=I.list hq;obtain ⟨u,hu,ru⟩:=rv.get hx;obtain ⟨⟨old,he⟩,hit⟩:=st;obtain ⟨f0,f1,f2,f3,f4,f5⟩:=hf e Jll;obtain ⟨g0,g1,g2,g3,g4,g5⟩:=hf it Jll;refine wpAny_pyNext_enum_item he hit p.isList (x:=u) (by simpa using hu) hei fun h1 ho hit1 hT hsz hk=>?_;refine zn _ rfl (wpAny_letOwnedTupleGo_enum ho fun h2 he2 hs2=>?_);replace hs2:Heap.SameBut e h1 h2:=hs2;have helt:e<s.heap.objs.size:=bT he;have hk2:∀b o,b≠e->b≠it->s.heap.get? b=some o->h2.get? b=some o:=fun b o b1 b2 q=>(hs2.2 b b1).trans (hk b o b1 b2 q);have hT2:h2.get? s.heap.objs.size=some {cls:=.type "tuple",data:=.seq #[.int i s.toks,u]}:=(hs2.2 _ (xt helt)).trans hT;have hn:H s.heap.objs.size=none:=I.hok.fresh (zq5 _);have nE:∀b v,H b=some v->b≠e:=fun b v q z=>by rw [z,f0] at q;cases q
  have nI:∀b v,H b=some v->b≠it:=fun b v q z=>by rw [z,g0] at q;cases q
  have ok2:HOk X.prog X.w H h2:=fun b v q=>(I.hok b v q).stay (fun c v' hc r=>by
   rcases hc with z | z
   ·exact hk2 c v' (by rw [z];exact nE b v q) (by rw [z];exact nI b v q) r
   ·exact hk2 c v' (nE c _ z) (nI c _ z) r) (fun _ r=>r) fun _ _ r=>r
  have ok3:HOk X.prog X.w (upd H s.heap.objs.size (.tup [.int i,x])) h2:=fun b v q=>by
   by_cases hb:b=s.heap.objs.size
   ·subst hb;rw [ac] at q
    cases q
    exact ⟨by show 2<=sizeLine;decide,zn ([.int i s.toks,u]) (.cons ⟨_,rfl⟩ (.cons ru .nil)) (zAC _ hT2 rfl ⟨_,rfl⟩)⟩
   ·rw [ao hb] at q;exact (ok2 b v q).stay (fun c v' _ r=>r) (fun c r=>by rw [ao (am r hn)];exact r) fun c ys r=>by rw [ao (am r hn)];exact r
  have nlt:∀{b:Addr} {o:Obj},s.heap.get? b=some o->b≠s.heap.objs.size:=fun q=>cF (bT q);have I2:Inv X pins σ (upd H s.heap.objs.size (.tup [.int i,x])) {s with heap:=h2,toks:=s.toks+1}:=
   I.step (g':=s.gens) (d':=s.drawn) (ch:=[e,it]) (fun b hb=>by
     rcases zq12.mp hb with rfl | hb
     ·exact zAF f3 f1 f4 f5
     ·have e':b=it:=by simpa using hb
      subst e';exact zAF g3 g1 g4 g5)
    (fun b o _ _ hc q _=>hk2 b o (fun z=>hc (by simp [z])) (fun z=>hc (by simp [z])) q)
    (fun b o _ _ hc q _=>⟨o.slots,hk2 b o (fun z=>hc (by simp [z])) (fun z=>hc (by simp [z])) q⟩)
    (fun b o _ q n=>by rw [ao (nlt q)];exact n)
    (fun b o hc q=>⟨o,hk2 b o (fun z=>hc (by simp [z])) (fun z=>hc (by simp [z])) q⟩)
    (fun b ys q=>by rw [ao (am q hn)];exact q) (fun b o v q=>by rw [ao (am q hn)];exact q) (fun b ps q=>⟨#[],by rw [ao (am q hn),q];simp⟩)
    (fun m ⟨o,es,ep,hm,r⟩=>zAK o es ep (hk2 _ o (Ne.symm f1) (Ne.symm g1) hm) r) ok3 I.bare
  refine zAR (.ref s.heap.objs.size) _ I2 rfl (zAE _ x rfl hn rfl (fun ys hy=>by rw [I.list_inj hy hq];exact hx)) ⟨⟨_,by simpa using he2⟩,hit1.at fun o y=>(hs2.2 it hei.symm).trans y⟩ fun b hb=>?_;rcases zq12.mp hb with rfl | hb
  ·rw [ao (cF helt)];exact f0
  ·have e':b=it:=by simpa using hb
   subst e';obtain ⟨o,q,_⟩:=hit;rw [ao (nlt q)];exact g0
 done:=by intro X hP hw hK hc i pins s σ H E I hf st hg;subst hP hw hK;obtain ⟨xs,hq,hx⟩:=hg;obtain ⟨its,rv,p,hz⟩:=I.list hq;obtain ⟨⟨old,he⟩,hit⟩:=st;obtain ⟨g0,g1,g2,g3,g4,g5⟩:=hf it Jll;have hl:=rv.length;exact wpAny_pyNext_enum_end (I.ok.hd hc) he hit p.isList (by simp;omega) fun h' eb=>⟨rfl,I.turned (t':=s.toks) (it:=it) (fun b o hb q=>eb b o hb q) g0 g1 g3 g4 g5⟩
 self:=fun _ _ _ _ _ ⟨⟨_,he⟩,_⟩ h=>wpAny_pyIter_enum he h
def yr(K:W.Frag)(ta:TA):TI:=fun σ H R=>ta σ H fun vs H1=>∃a,vs=[.ref a]/\(∃xs,SqL K H1 a xs)/\R (Ite K a) H1
theorem CG{X:Cx}{a:Expr}{ta:TA}{p pos pos0:Pos}{elts:List Expr}{k0:Nat}(hm:X.mg "enumerate"=none) (ha:PA X [a] ta) (hg:Gl X "enumerate":=by rfl) (hs:starEach [a] X.env=[(false,eval a X.env)]:=by rfl) :
  PI X (.Tuple elts k0 pos0) (.Call (.Name "enumerate" p) [a] [] pos) (yr X.K ta):=by
 intro pins s σ H R I h;refine Call_ (eX I hg hm boot_enumerate (PyProof.Rows.callWith_type1 (thn (ha pos pins s σ H _ I h) fun us s1 hhx=>?_) hs rfl));obtain ⟨vs,H1,I1,r1,q1⟩:=hhx;obtain ⟨l,e,⟨xs,hq⟩,q⟩:=q1;subst e
 cases r1 with
 |cons r rr=>
  cases rr
  cases r
  obtain ⟨its,rv,pl,hz⟩:=I1.list hq;refine call_enumerate_list pl.isList fun h' he hit hsz hk=>?_;refine wpAny_pyIter_enum he ?_;have I2:Inv X pins σ H1 {s1 with heap:=h'}:=I1.kept (t':=s1.toks) hk;refine zAZ (s1.heap.objs.size+1) ([s1.heap.objs.size+1,s1.heap.objs.size]) _ _ H1 rfl I2 (xi l _ _ (Nat.succ_ne_self _)) ⟨⟨_,he⟩,hit⟩ (fun b hb=>?_) q;have hle:s1.heap.objs.size<=b:=by
   rcases zq12.mp hb with rfl | hb
   ·exact Bu _
   ·rw [zq10.mp hb];exact zq5 _
  exact I1.fpOk hle (I1.hok.fresh hle)
theorem yi{K:W.Frag}{a:Addr}{xs:List V}{g:TG}{tb:TS}{D:de}{σ:St}{H:Hp}(Pv:Nat->St->Hp->Prop)(h0:Pv 0 σ H)(hl:∀i σ H,i<=xs.length->Pv i σ H->SqL K H a xs)
  (hs:∀(i:Nat)x σ H p,xs[i]?=some x->H p=none->Pv i σ H->g (.ref p) σ (upd H p (.tup [.int i,x])) fun σ2 H2=>tb {D with nx:=Pv (i+1),ct:=Pv (i+1),bk:=D.nx} σ2 H2) (hd:∀σ H,Pv xs.length σ H->D.nx σ H) :
  ∃W:Nat->Nat->St->Hp->Prop,(∃m,W 0 m σ H)/\∀i m σ H,W i m σ H->
   ((Ite K a).stop i H/\D.nx σ H)\/((Ite K a).go i H/\∃N:St->Hp->Prop,(∀σ' H',N σ' H'->∃m',m'<m/\W (i+1) m' σ' H')/\∀x H',(Ite K a).yld i H x H'->g x σ H' fun σ2 H2=>tb {D with nx:=N,ct:=N,bk:=D.nx} σ2 H2):=by
 refine zn (fun i m σ H=>m=xs.length-i/\i<=xs.length/\Pv i σ H) (zAC xs.length Jll (cq _) h0) ?_;rintro i m σ H ⟨rfl,hi,p⟩;have q:=hl i σ H hi p
 by_cases hlt:i<xs.length
 ·refine .inr ⟨zAD xs (xs[i]) q (by simp [hlt]),zn (Pv (i+1)) (fun σ' H' p'=>zAG (xs.length-(i+1)) Jlk rfl hlt p') fun x H' y=>?_⟩;obtain ⟨pp,z,ex,hn,eH,y⟩:=y;subst ex eH;exact hs i z σ H pp (y xs q) hn p
 ·have e:i=xs.length:=by omega
  subst e;exact .inl ⟨zn xs q (zq5 _),hd σ H p⟩
theorem om{ns:List Int}(h:W.WData.layableAll [W.WData.list (ns.map W.WData.int)]=true):∀n∈ns,Builtin.Int.intBits n<=2 ^ 20:=fun n hn=>by have h1:=(W.layW_cons h).1;have h2:=W.layableW_item h1 (W.WData.int n) (zq36.mpr (zn n hn rfl));exact PyData.bits_of_layable (W.layable0_of_all (W.lay0_int h2))
section
open PySem.W PySem.Calls
theorem AK{l:W.OpenLaw}{n k:Nat}{q:Program}{loose:List Str}{XP:(Str->Option Value)->Heap->Prop}{YP:World->Heap->Prop}{d:DefRec}{K:Params->W.Frag}{CX:World->CXT}{sp:World->Sp}{x:Str}
  (hn:l.most=some n) (hn2:n<=sizeLine) (hdf:d.params.defaults=[]) (hr:Room k callerA)
  (hY:∀(w:World)(h:Heap),YP w h->(K w.params).In h)
  (F:∀(w:World)(mg:Str->Option Value)(fa:Addr)(h:Heap),(K w.params).In h->h.Ns mainGlobals mg->mg d.name=some (.ref fa)->
   ∃fd:FuncData,(∀(s:Shared)(u:Value),BindsTo s fd ⟨[u],[]⟩ [(x,u)])/\
    ∀base:Heap,(K w.params).In base->base.Ns mainGlobals mg->FnOk l.prog w (K w.params) mg base (CX w) k fa fd [x] (sp w))
  (hsp:∀(w:World)(H:Hp)(a:Addr)(ns:List Int),ns.length<=n->(∀z∈ns,Builtin.Int.intBits z<=2 ^ 20)->F2 H->SqL (K w.params) H a (ns.map V.int)->sp w [.ref a] H (fun v _=>v=.bl true) fun _ _ _=>False)
  (hCX:∀(w:World)(H:Hp)(s:Shared)(e:Value)(s':Shared),CX w [] H s (fun _ _ _=>False) e s'->False) :
  W.WalkO q loose XP YP l.row.toRowW d [] (fun f vs=>PySem.call f vs):=by
 intro w s₀ s₁ mg mb G Y fa o pm cd doc dV kV ho hd hcd hD hmg hg args vals as hpre hlay hrd hwl hlo;obtain rfl:dV=.none:=Dflts.none hD hdf;obtain rfl:kV=.none:=Dflts.noKw hD;obtain ⟨a,vs,ns,rfl,rfl,hobj,hints,hlen⟩:=Att.xf hn hpre hwl;have KX:=hY w _ Y;obtain ⟨fd,hb,hF⟩:=F w mg fa _ KX G.T.g hmg;refine enter_call (codeAny_mono (yx KX G.T.g G.T.b G.T.builtins G.T.nolimit hg hobj hints (dI hlen hn2) hr hF hb (fun H hO hS=>hsp w H a ns hlen (om hlay) hO hS) fun H e s'=>hCX w H s₁ e s') fun r s' hq=>?_);obtain ⟨rfl,h2,h3,h4⟩:=hq;exact zAF (.inl (zAL (.bool true) (.bool true) ([]) rfl (fun _=>rfl) (.bool true) (Att.wW l _) fun _=>⟨List.Pairwise.nil,fun _ hm=>(nomatch hm)⟩)) h2 h3 h4
end
end L2
namespace L2
variable {a p:Addr} {a0 a1 a10 a11 a12 a13 a2 a3 a4 a5 a6 a7 a8 a9 b:Option V} {c i j:Int} {n:Nat} {r:St} {ta te:TE} {xs:List V}
section
variable {H:Hp} {Q:VK} {σ:St} {D:de}
theorem K8{v:V}{Z:St->Hp->Prop}:bK 0 v (b::r) H Z=Z (some v::r) H:=rfl
theorem K9{v:V}{Z:St->Hp->Prop}:bK 1 v (a0::b::r) H Z=Z (a0::some v::r) H:=rfl
theorem Ka{v:V}{Z:St->Hp->Prop}:bK 2 v (a0::a1::b::r) H Z=Z (a0::a1::some v::r) H:=rfl
theorem Kb{v:V}{Z:St->Hp->Prop}:bK 3 v (a0::a1::a2::b::r) H Z=Z (a0::a1::a2::some v::r) H:=rfl
theorem Kc{v:V}{Z:St->Hp->Prop}:bK 4 v (a0::a1::a2::a3::b::r) H Z=Z (a0::a1::a2::a3::some v::r) H:=rfl
theorem Ke{v:V}{Z:St->Hp->Prop}:bK 5 v (a0::a1::a2::a3::a4::b::r) H Z=Z (a0::a1::a2::a3::a4::some v::r) H:=rfl
theorem Kf{v:V}{Z:St->Hp->Prop}:bK 6 v (a0::a1::a2::a3::a4::a5::b::r) H Z=Z (a0::a1::a2::a3::a4::a5::some v::r) H:=rfl
theorem Kg{v:V}{Z:St->Hp->Prop}:bK 7 v (a0::a1::a2::a3::a4::a5::a6::b::r) H Z=Z (a0::a1::a2::a3::a4::a5::a6::some v::r) H:=rfl
theorem Kh{v:V}{Z:St->Hp->Prop}:bK 8 v (a0::a1::a2::a3::a4::a5::a6::a7::b::r) H Z=Z (a0::a1::a2::a3::a4::a5::a6::a7::some v::r) H:=rfl
theorem Ki{v:V}{Z:St->Hp->Prop}:bK 9 v (a0::a1::a2::a3::a4::a5::a6::a7::a8::b::r) H Z=Z (a0::a1::a2::a3::a4::a5::a6::a7::a8::some v::r) H:=rfl
theorem Ja{v:V}{Z:St->Hp->Prop}:bK 10 v (a0::a1::a2::a3::a4::a5::a6::a7::a8::a9::b::r) H Z=Z (a0::a1::a2::a3::a4::a5::a6::a7::a8::a9::some v::r) H:=rfl
theorem Jb{v:V}{Z:St->Hp->Prop}:bK 11 v (a0::a1::a2::a3::a4::a5::a6::a7::a8::a9::a10::b::r) H Z=Z (a0::a1::a2::a3::a4::a5::a6::a7::a8::a9::a10::some v::r) H:=rfl
theorem Jc{v:V}{Z:St->Hp->Prop}:bK 12 v (a0::a1::a2::a3::a4::a5::a6::a7::a8::a9::a10::a11::b::r) H Z=Z (a0::a1::a2::a3::a4::a5::a6::a7::a8::a9::a10::a11::some v::r) H:=rfl
theorem Jd{v:V}{Z:St->Hp->Prop}:bK 13 v (a0::a1::a2::a3::a4::a5::a6::a7::a8::a9::a10::a11::a12::b::r) H Z=Z (a0::a1::a2::a3::a4::a5::a6::a7::a8::a9::a10::a11::a12::some v::r) H:=rfl
theorem Je{v:V}{Z:St->Hp->Prop}:bK 14 v (a0::a1::a2::a3::a4::a5::a6::a7::a8::a9::a10::a11::a12::a13::b::r) H Z=Z (a0::a1::a2::a3::a4::a5::a6::a7::a8::a9::a10::a11::a12::a13::some v::r) H:=rfl
theorem Jf{v:V}{Z:St->Hp->Prop}{a14:Option V}:bK 15 v (a0::a1::a2::a3::a4::a5::a6::a7::a8::a9::a10::a11::a12::a13::a14::b::r) H Z=Z (a0::a1::a2::a3::a4::a5::a6::a7::a8::a9::a10::a11::a12::a13::a14::some v::r) H:=rfl
theorem Jg{v:V}{Z:St->Hp->Prop}{a14:Option V}{a15:Option V}:bK 16 v (a0::a1::a2::a3::a4::a5::a6::a7::a8::a9::a10::a11::a12::a13::a14::a15::b::r) H Z=Z (a0::a1::a2::a3::a4::a5::a6::a7::a8::a9::a10::a11::a12::a13::a14::a15::some v::r) H:=rfl
theorem r_c{v:V}:tC v σ H Q=Q v H:=rfl
theorem Km{r:R2}{tb:TE}:tOp r ta tb σ H Q=ta σ H fun x H1=>tb σ H1 fun y H2=>r x y H2 Q:=rfl
theorem Kr{r:V->Hp->VK->Prop}:tUn r ta σ H Q=ta σ H fun x H1=>r x H1 Q:=rfl
theorem oH:decide (V.int i=V.int j)=decide (i=j):=by
 by_cases h:i=j
 ·rw [cf h,cf (congrArg V.int h)]
 ·rw [bC h,bC fun q=>h (V.int.inj q)]
theorem y9{i j:Str}:decide (V.str i=V.str j)=decide (i=j):=by
 by_cases h:i=j
 ·rw [cf h,cf (congrArg V.str h)]
 ·rw [bC h,bC fun q=>h (V.str.inj q)]
theorem J5:rEq (.int i) (.int j) H Q=Q (.bl (decide (i=j))) H:=by show (xc (.int i) (.int j)=true/\Q (.bl (decide (V.int i=V.int j))) H)=_;rw [oH];exact propext ⟨fun h=>h.2,fun h=>⟨rfl,h⟩⟩
theorem J6{i j:Str}:rEq (.str i) (.str j) H Q=Q (.bl (decide (i=j))) H:=by show (xc (.str i) (.str j)=true/\Q (.bl (decide (V.str i=V.str j))) H)=_;rw [y9];exact propext ⟨fun h=>h.2,fun h=>⟨rfl,h⟩⟩
theorem Jo:rNe (.int i) (.int j) H Q=Q (.bl (! decide (i=j))) H:=by show (xc (.int i) (.int j)=true/\Q (.bl (! decide (V.int i=V.int j))) H)=_;rw [oH];exact propext ⟨fun h=>h.2,fun h=>⟨rfl,h⟩⟩
theorem GE{c:Bool}{Z:Bool->Prop}:(∃k,V.bl c=V.bl k/\Z k)=Z c:=propext ⟨by rintro ⟨_,e,q⟩;cases e;exact q,by intro q;exact zn c rfl q⟩
theorem CV{Z:Int->Prop}:(∃k,V.int c=V.int k/\Z k)=Z c:=propext ⟨by rintro ⟨_,e,q⟩;cases e;exact q,by intro q;exact zn c rfl q⟩
theorem Hm{t:TE}{Z:Bool->Hp->Prop}:EN t σ H Z=t σ H fun x H'=>∃k,x=.bl k/\Z k H':=rfl
theorem r_B{t:TE}{Z:Bool->Hp->Prop}:tB t σ H Z=t σ H fun x H'=>∃k,x=.bl k/\Z k H':=rfl
theorem IY{t u:TT}{Z:Bool->Hp->Prop}:Jz t u σ H Z=t σ H fun c H1=>if c=true then u σ H1 Z else Z false H1:=rfl
theorem Kn{t u:TT}{Z:Bool->Hp->Prop}:tOr t u σ H Z=t σ H fun c H1=>if c=true then Z true H1 else u σ H1 Z:=rfl
theorem Jq{t:TT}{Z:Bool->Hp->Prop}:JD t σ H Z=t σ H fun c H1=>Z (! c) H1:=rfl
theorem Gi{tb:TE}:EG ta tb σ H Q=ta σ H fun x H1=>∃c,x=.bl c/\if c=true then tb σ H1 Q else Q (.bl false) H1:=rfl
theorem Jr{tb:TE}:JE ta tb σ H Q=ta σ H fun x H1=>∃c,x=.bl c/\if c=true then Q (.bl true) H1 else tb σ H1 Q:=rfl
theorem Kj{t:TT}{tb:TE}:tIf t ta tb σ H Q=t σ H fun c H1=>if c=true then ta σ H1 Q else tb σ H1 Q:=rfl
theorem Hh:EL D σ H=D.nx σ H:=rfl
theorem zU{t u:TS}:HV t u D σ H=t {D with nx:=u D} σ H:=rfl
theorem Gp:EH D σ H=D.ct σ H:=rfl
theorem Gu:EK te D σ H=te σ H fun _ H1=>D.nx σ H1:=rfl
theorem Jt:AA te D σ H=te σ H D.rt:=rfl
theorem DC{c:TT}{t u:TS}:HS c t u D σ H=c σ H fun b H1=>if b=true then t D σ H1 else u D σ H1:=rfl
theorem J0{g:TG}:De te g D σ H=te σ H fun x H1=>g x σ H1 D.nx:=rfl
theorem K5{r:List V->Hp->VK->Prop}{t:TA}:tCB r t σ H Q=t σ H fun vs H1=>r vs H1 Q:=rfl
theorem Jp{Z:List V->Hp->Prop}:qB σ H Z=Z [] H:=rfl
theorem Gn{tr:TA}{Z:List V->Hp->Prop}:Av ta tr σ H Z=ta σ H fun x H1=>tr σ H1 fun xs H2=>Z (x::xs) H2:=rfl
theorem Gm{sp:Sp}{E:XK}{t:TA}:qz sp [] E t σ H Q=t σ H fun vs H1=>sp vs H1 Q E:=by show (t σ H fun vs H1=>sp (vs++[]) H1 Q E)=_;simp only [List.append_nil]
theorem Jw{t:TA}:JF t σ H Q=t σ H fun xs H1=>xs.length<=sizeLine/\∀p,H1 p=none->Q (.ref p) (upd H1 p (.tup xs)):=rfl
theorem Jn{t:TA}:JC t σ H Q=t σ H fun xs H1=>xs.length<=sizeLine/\∀p,H1 p=none->Q (.ref p) (upd H1 p (.lst xs)):=rfl
theorem Ko{Z:List (V×V)->Hp->Prop}:gJ [] σ H Z=Z [] H:=rfl
theorem Kp{tk tv:TE}{r:List (TE×TE)}{Z:List (V×V)->Hp->Prop}:gJ ((tk,tv)::r) σ H Z=tk σ H fun x H1=>tv σ H1 fun y H2=>gJ r σ H2 fun ps H3=>Z ((x,y)::ps) H3:=rfl
theorem Gr{trs:List (TE×TE)}:EJ trs σ H Q=∀p,H p=none->gJ trs σ (upd H p (.dK [])) fun ps H2=>H2 p=some (.dK [])/\∃kvs:List (Key×V),ps=kvs.map (fun kv=>(kV kv.1,kv.2))/\kvs.length<=15/\Q (.ref p) (upd H2 p (.dK (gG [] kvs))):=rfl
theorem Gq{td ty:TE}:EI td ty σ H Q=td σ H fun x H1=>ty σ H1 fun y H2=>∃a v,x=.ref a/\DGet H2 a y (some v)/\Q v H2:=rfl
theorem Kq{r:V->Option Int->Option Int->Hp->VK->Prop}{tl th:TO}:tSl r te tl th σ H Q=te σ H fun x H1=>tl σ H1 fun l H2=>th σ H2 fun u H3=>r x l u H3 Q:=rfl
theorem zN{Z:Option Int->Hp->Prop}:vq σ H Z=Z none H:=rfl
theorem Hi{Z:Option Int->Hp->Prop}:EM te σ H Z=te σ H fun x H1=>∃i,x=.int i/\Z (some i) H1:=rfl
theorem GF{Z:St->Hp->Prop}:Ir [] σ H Z=Z σ H:=propext ⟨fun h=>h.2,fun h=>⟨rfl,h⟩⟩
theorem CW{t:TG}{u:TGs}{v:V}{r:List V}{Z:St->Hp->Prop}:Dt t u (v::r) σ H Z=t v σ H fun σ' H'=>u r σ' H' Z:=propext ⟨by rintro ⟨_,_,e,q⟩;cases e;exact q,by intro q;exact zAD v r rfl q⟩
theorem Ji{A B:Prop}:(if false=true then A else B)=B:=zq0 bw
theorem Kl:(! true)=false:=rfl
theorem Kk:(! false)=true:=rfl
theorem GQ:(([]:List V).length<=sizeLine)=True:=eq_true (by show 0<=sizeLine;decide)
theorem GR{a0:V}:(([a0]:List V).length<=sizeLine)=True:=eq_true (by show 1<=sizeLine;decide)
theorem GS{a0 a1:V}:(([a0,a1]:List V).length<=sizeLine)=True:=eq_true (by show 2<=sizeLine;decide)
theorem GT{a0 a1 a2:V}:(([a0,a1,a2]:List V).length<=sizeLine)=True:=eq_true (by show 3<=sizeLine;decide)
theorem GU{a0 a1 a2 a3:V}:(([a0,a1,a2,a3]:List V).length<=sizeLine)=True:=eq_true (by show 4<=sizeLine;decide)
theorem GW{a0 a1 a2 a3 a4 a5 a6:V}:(([a0,a1,a2,a3,a4,a5,a6]:List V).length<=sizeLine)=True:=eq_true (by show 7<=sizeLine;decide)
theorem Ha{a0 a1 a2 a3 a4 a5 a6 a7:V}:(([a0,a1,a2,a3,a4,a5,a6,a7]:List V).length<=sizeLine)=True:=eq_true (by show 8<=sizeLine;decide)
end
def nU(J:It)(g:TG)(tb:TS)(D:de)(σ:St)(H1:Hp):Prop:=∃W:Nat->Nat->St->Hp->Prop,(∃m,W 0 m σ H1)/\∀i m σ H,W i m σ H->
 (J.stop i H/\D.nx σ H)\/(J.go i H/\∃N:St->Hp->Prop,(∀σ' H',N σ' H'->∃m',m'<m/\W (i+1) m' σ' H')/\∀x H',J.yld i H x H'->g x σ H' fun σ2 H2=>tb {D with nx:=N,ct:=N,bk:=D.nx} σ2 H2)
section
variable {g:TG} {tb:TS} {D:de} {σ:St} {H:Hp}
theorem J9{wi:TI}:HR wi g tb D σ H=wi σ H fun J H1=>nU J g tb D σ H1:=rfl
theorem CY{K:W.Frag}{ta:TA}{R:It->Hp->Prop}:yr K ta σ H R=ta σ H fun vs H1=>∃a,vs=[.ref a]/\(∃xs,SqL K H1 a xs)/\R (Ite K a) H1:=rfl
theorem D0{K:W.Frag}{tl:TE}{R:It->Hp->Prop}:Du K tl σ H R=tl σ H fun x H1=>∃a,x=.ref a/\(∃xs,SqL K H1 a xs)/\R (Itl K a) H1:=rfl
theorem GK{K:W.Frag}{tl:TE}{R:It->Hp->Prop}:Iw K tl σ H R=tl σ H fun x H1=>∃a,x=.ref a/\(∃xs,SqT K H1 a xs)/\R (Itt K a) H1:=rfl
theorem D1{ta:TA}{R:It->Hp->Prop}:Dv ta σ H R=ta σ H fun vs H1=>∃j:Int,vs=[.int j]/\-(2 ^ 62)<=j/\j<2 ^ 62/\R (Itr 0 j.toNat) H1:=rfl
theorem Gv{Z:Int->Prop}:(∃k,[V.int c]=[V.int k]/\Z k)=Z c:=propext ⟨by rintro ⟨_,e,q⟩;cases e;exact q,by intro q;exact zn c rfl q⟩
theorem Gw{d:Int}{Z:Int->Int->Prop}:(∃k l,[V.int c,V.int d]=[V.int k,V.int l]/\Z k l)=Z c d:=propext ⟨by rintro ⟨_,_,e,q⟩;cases e;exact q,by intro q;exact zAD c d rfl q⟩
theorem Gx{c:Addr}{Z:Addr->Prop}:(∃k,[V.ref c]=[V.ref k]/\Z k)=Z c:=propext ⟨by rintro ⟨_,e,q⟩;cases e;exact q,by intro q;exact zn c rfl q⟩
theorem J7{c:Addr}{Z:Addr->Prop}:(∃k,V.ref c=V.ref k/\Z k)=Z c:=propext ⟨by rintro ⟨_,e,q⟩;cases e;exact q,by intro q;exact zn c rfl q⟩
theorem yn{lo:Int}(Pv:Nat->St->Hp->Prop)(h0:Pv 0 σ H)
 (hs:∀(i:Nat)σ H,i<n->Pv i σ H->g (.int (lo+i)) σ H fun σ2 H2=>tb {D with nx:=Pv (i+1),ct:=Pv (i+1),bk:=D.nx} σ2 H2) (hd:∀σ H,Pv n σ H->D.nx σ H):nU (Itr lo n) g tb D σ H:=wg Pv h0 hs hd
theorem dJ(Pv:Nat->St->Hp->Prop)(h0:Pv 0 σ H)
 (hs:∀(i:Nat)σ H,i<n->Pv i σ H->g (.int (i:Int)) σ H fun σ2 H2=>tb {D with nx:=Pv (i+1),ct:=Pv (i+1),bk:=D.nx} σ2 H2) (hd:∀σ H,Pv n σ H->D.nx σ H):nU (Itr 0 n) g tb D σ H:=
 yn Pv h0 (fun i σ H hi p=>by rw [Int.zero_add];exact hs i σ H hi p) hd
theorem mM{K:W.Frag}(Pv:Nat->St->Hp->Prop)(h0:Pv 0 σ H)(hl:∀i σ H,i<=xs.length->Pv i σ H->SqL K H a xs)
 (hs:∀(i:Nat)x σ H p,xs[i]?=some x->H p=none->Pv i σ H->g (.ref p) σ (upd H p (.tup [.int i,x])) fun σ2 H2=>tb {D with nx:=Pv (i+1),ct:=Pv (i+1),bk:=D.nx} σ2 H2) (hd:∀σ H,Pv xs.length σ H->D.nx σ H):nU (Ite K a) g tb D σ H:=yi Pv h0 hl hs hd
theorem dD{K:W.Frag}(Pv:Nat->St->Hp->Prop)(h0:Pv 0 σ H)(hl:∀i σ H,i<=xs.length->Pv i σ H->SqL K H a xs)
 (hs:∀(i:Nat)x σ H,xs[i]?=some x->Pv i σ H->g x σ H fun σ2 H2=>tb {D with nx:=Pv (i+1),ct:=Pv (i+1),bk:=D.nx} σ2 H2) (hd:∀σ H,Pv xs.length σ H->D.nx σ H):nU (Itl K a) g tb D σ H:=yj Pv h0 hl hs hd
theorem Same.upd{H:Hp}{o:HO}(h:H p=none):Same H (upd H p o):=fun b u e=>by rw [ao (am e h)];exact e
theorem Same.seqT{K:W.Frag}{H H':Hp}(e:Same H H')(h:SqT K H a xs):SqT K H' a xs:=by
 rcases h with (h | ⟨o,h⟩) | h
 ·exact .inl (.inl (e _ _ h))
 ·exact .inl (.inr ⟨o,e _ _ h⟩)
 ·exact .inr h
end
section
variable {H:Hp} {Q:VK} {σ:St} {D:de} {K:W.Frag}
theorem K7{T:String}{r:V->List V->Hp->VK->Prop}{to:TE}{t:TA}:tBM K T r to t σ H Q=to σ H fun x H1=>tyV K T x H1/\t σ H1 fun xs H2=>r x xs H2 Q:=rfl
theorem J3{T:String}{r:V->List V->Hp->VK->Prop}{to:TE}:JA K T r to σ H Q=to σ H fun x H1=>tyV K T x H1/\r x [] H1 Q:=rfl
theorem Jk{z:Str}:IO (.str z) (.int i) H Q=(z.length<=sizeLine/\∃c,atI z.cps.toList i=some c/\Q (.str ⟨#[c]⟩) H):=propext ⟨by rintro ⟨_,_,c,e1,e2,h1,h2,q⟩;cases e1;cases e2;exact ⟨h1,zn c h2 q⟩,by rintro ⟨h1,c,h2,q⟩;exact zAL _ _ c rfl rfl h1 h2 q⟩
theorem Jj:Gh K (.ref p) (.int i) H Q=∃xs v,SqL K H p xs/\atI xs i=some v/\Q v H:=propext ⟨by rintro ⟨_,xs,_,v,e1,e2,h1,h2,q⟩;cases e1;cases e2;exact zAA xs v h1 h2 q,by rintro ⟨xs,v,h1,h2,q⟩;exact zAM _ xs _ v rfl rfl h1 h2 q⟩
theorem DD:CN K (.ref p) (.int i) H Q=∃xs v,SqT K H p xs/\atI xs i=some v/\Q v H:=propext ⟨by rintro ⟨_,xs,_,v,e1,e2,h1,h2,q⟩;cases e1;cases e2;exact zAA xs v h1 h2 q,by rintro ⟨xs,v,h1,h2,q⟩;exact zAM _ xs _ v rfl rfl h1 h2 q⟩
theorem J4{b:Addr}:IN (.ref a) (.ref b) H Q=∃xs zs,H a=some (.lst xs)/\H b=some (.lst zs)/\xs.length+zs.length<=sizeLine/\∀p,H p=none->Q (.ref p) (upd H p (.lst (xs++zs))):=propext ⟨by rintro ⟨_,_,xs,zs,e1,e2,h⟩;cases e1;cases e2;exact zAH xs zs h,by rintro ⟨xs,zs,h⟩;exact zBE _ _ xs zs (zAB rfl rfl h)⟩
theorem Ju{lo hi:Option Int}:IU K (.ref a) lo hi H Q=∃xs,SqL K H a xs/\∀p,H p=none->Q (.ref p) (upd H p (.lst (gf xs lo hi))):=propext ⟨by rintro ⟨_,xs,e1,h⟩;cases e1;exact ⟨xs,h⟩,by rintro ⟨xs,h⟩;exact zAD _ xs rfl h⟩
theorem zG{y:V}:uJ (.ref a) [y] H Q=∃xs,H a=some (.lst xs)/\xs.length<sizeLine/\Q .non (upd H a (.lst (xs++[y]))):=propext ⟨by rintro ⟨_,xs,_,e1,e2,h⟩;cases e1;cases e2;exact ⟨xs,h⟩,by rintro ⟨xs,h⟩;exact zAN _ xs _ rfl rfl h⟩
theorem Js:IR (.ref a) [] H Q=∃xs y,H a=some (.lst xs)/\xs[xs.length-1]?=some y/\Q y (upd H a (.lst xs.dropLast)):=propext ⟨by rintro ⟨_,xs,y,e1,_,h⟩;cases e1;exact zAH xs y h,by rintro ⟨xs,y,h⟩;exact zAN _ xs y rfl rfl h⟩
theorem GC{a b:Str}{Z:Str->Str->Prop}:(∃i j,V.str a=V.str i/\V.str b=V.str j/\Z i j)=Z a b:=propext ⟨by rintro ⟨_,_,e1,e2,q⟩;cases e1;cases e2;exact q,by intro q;exact zAA a b rfl rfl q⟩
theorem Gy{Z:Addr->List V->Prop}:(∃p ys,[V.ref a]=[V.ref p]/\Z p ys)=∃ys,Z a ys:=propext ⟨by rintro ⟨_,ys,e1,q⟩;cases e1;exact ⟨ys,q⟩,by rintro ⟨ys,q⟩;exact zAD a ys rfl q⟩
theorem GP{c:Bool}{Z:Int->Prop}{Y:Bool->Prop}:((∃i,[V.bl c]=[V.int i]/\Z i)\/∃k,[V.bl c]=[V.bl k]/\Y k)=Y c:=propext ⟨fun h=>(by rcases h with ⟨_,e,q⟩ | ⟨_,e,q⟩<;>cases e<;>exact q),fun q=>Or.inr (zn c rfl q)⟩
theorem GH{t:TGs}{Z:St->Hp->Prop}:Iu K n t (.ref a) σ H Z=∃xs,SqT K H a xs/\xs.length=n/\t xs σ H Z:=propext ⟨by rintro ⟨_,xs,e,h⟩;cases e;exact ⟨xs,h⟩,by rintro ⟨xs,h⟩;exact zAD a xs rfl h⟩
end
end L2
namespace L2
section
variable {prog:Program} {w:World} {A:Around} {R:Result->Shared->Prop} {s:Shared}
end
end L2
namespace L2
inductive Dq (K:W.Frag) (H:Hp):Nat->V->V->Bool->Prop where
 |flat {n:Nat} {x y:V} (fx:bG x=true) (fy:bG y=true):Dq K H n x y (eqV x y)
 |same {n:Nat} {a:Addr}:Dq K H n (.ref a) (.ref a) true
 |lists {n:Nat} {a b:Addr} {xs ys:List V} (e:Nat->Bool) (ne:a≠b) (ha:SqL K H a xs) (hb:SqL K H b ys) (hl:xs.length=ys.length)
   (he:∀(j:Nat)x y,xs[j]?=some x->ys[j]?=some y->Dq K H n x y (e j)):Dq K H (n+1) (.ref a) (.ref b) ((List.range xs.length).all e)
 |lens {n:Nat} {a b:Addr} {xs ys:List V} (ne:a≠b) (ha:SqL K H a xs) (hb:SqL K H b ys) (hl:¬xs.length=ys.length):Dq K H (n+1) (.ref a) (.ref b) false
 |tups {n:Nat} {a b:Addr} {xs ys:List V} (e:Nat->Bool) (ne:a≠b) (ha:SqT K H a xs) (hb:SqT K H b ys)
   (he:∀(j:Nat)x y,xs[j]?=some x->ys[j]?=some y->Dq K H n x y (e j)):Dq K H (n+1) (.ref a) (.ref b) ((List.range (min xs.length ys.length)).all e&&xs.length==ys.length)
section
variable {X:Cx} {pins:List (Addr×Obj)} {σ:St} {H:Hp} {s:Shared}
theorem fh{xs:List V}{its:List Value}(r:Vals xs its){j:Nat}(h:j<its.toArray.size):∃x,xs[j]?=some x/\RelV x its.toArray[j]:=by
 have hl:=r.length;have hj:j<xs.length:=by simpa [hl] using h
 obtain ⟨u,hu,ru⟩:=r.get (zq6 hj);have e:its.toArray[j]=u:=by
  have h2:its[j]?=some u:=hu;have h3:j<its.length:=by simpa using h
  rw [zq6 h3] at h2;simpa using h2
 exact zn (xs[j]) (zq6 hj) (by rw [e];exact ru)
theorem Dq.at(I:Inv X pins σ H s){n:Nat}{x y:V}{b:Bool}(d:Dq X.K H n x y b):∀{A:Around} {v u:Value},RelV x v->RelV y u->A.units+n<cLine->SeqAt.EqAt A s v u b:=by
 induction d with
 |flat fx fy=>intro A v u rv ru _;exact mJ rv ru fx fy
 |same=>intro A v u rv ru _;cases rv;cases ru;exact SeqAt.EqAt.same _
 | @lists n a b xs ys e ne ha hb hl he ih=>
  intro A v u rv ru hu
  cases rv;cases ru
  obtain ⟨its,r,p,_⟩:=I.list ha;obtain ⟨its2,r2,p2,_⟩:=I.list hb;have e1:=r.length;have e2:=r2.length;have z:=SeqAt.RcAt.lists (A:=A) (e:=e) p.isList p2.isList (by simp;omega) Jlk fun j h1 h2=>by obtain ⟨x,hx,rx⟩:=fh r h1;obtain ⟨y,hy,ry⟩:=fh r2 h2;exact ih j x y hx hy rx ry (by show A.units+1+n<cLine;omega)
  have e3:its.toArray.size=xs.length:=by simp [e1]
  rw [e3] at z;exact SeqAt.EqAt.of_refs ne z
 | @lens n a b xs ys ne ha hb hl=>
  intro A v u rv ru hu
  cases rv;cases ru
  obtain ⟨its,r,p,_⟩:=I.list ha;obtain ⟨its2,r2,p2,_⟩:=I.list hb;have e1:=r.length;have e2:=r2.length;exact SeqAt.EqAt.of_refs ne (SeqAt.RcAt.lists_lengths (A:=A) p.isList p2.isList (by simp;omega) Jlk)
 | @tups n a b xs ys e ne ha hb he ih=>
  intro A v u rv ru hu
  cases rv;cases ru
  obtain ⟨its,r,p,_⟩:=I.tuple ha;obtain ⟨its2,r2,p2,_⟩:=I.tuple hb;have e1:=r.length;have e2:=r2.length;have z:=SeqAt.RcAt.tuples (A:=A) (e:=e) (show s.heap.IsTuple a its.toArray from p) (show s.heap.IsTuple b its2.toArray from p2) Jlk fun j h1 h2=>by obtain ⟨x,hx,rx⟩:=fh r h1;obtain ⟨y,hy,ry⟩:=fh r2 h2;exact ih j x y hx hy rx ry (by show A.units+1+n<cLine;omega)
  have e3:its.toArray.size=xs.length:=by simp [e1]
  have e4:its2.toArray.size=ys.length:=by simp [e2]
  rw [e3,e4] at z;exact SeqAt.EqAt.of_refs ne z
end
inductive Rq (K:W.Frag) (H:Hp) (n:Nat):V->V->Bool->Prop where
 |lists {a b:Addr} {xs ys:List V} (e:Nat->Bool) (ha:SqL K H a xs) (hb:SqL K H b ys) (hl:xs.length=ys.length)
   (he:∀(j:Nat)x y,xs[j]?=some x->ys[j]?=some y->Dq K H n x y (e j)):Rq K H n (.ref a) (.ref b) ((List.range xs.length).all e)
 |lens {a b:Addr} {xs ys:List V} (ha:SqL K H a xs) (hb:SqL K H b ys) (hl:¬xs.length=ys.length):Rq K H n (.ref a) (.ref b) false
 |tups {a b:Addr} {xs ys:List V} (e:Nat->Bool) (ha:SqT K H a xs) (hb:SqT K H b ys)
   (he:∀(j:Nat)x y,xs[j]?=some x->ys[j]?=some y->Dq K H n x y (e j)):Rq K H n (.ref a) (.ref b) ((List.range (min xs.length ys.length)).all e&&xs.length==ys.length)
def K3(K:W.Frag)(n:Nat):R2:=fun x y H Q=>∃b,Rq K H n x y b/\Q (.bl b) H
def K4(K:W.Frag)(n:Nat):R2:=fun x y H Q=>∃b,Rq K H n x y b/\Q (.bl (! b)) H
section
variable {X:Cx}
theorem z8{n:Nat}(hu:X.A.units+(n+1)<cLine):OpR X (compareOp .Eq) (K3 X.K n):=by
 intro pins s σ H x y v u Q I rx ry h;obtain ⟨b,d,q⟩:=h
 cases d with
 | @lists a c xs ys e ha hb hl he=>
  cases rx;cases ry
  obtain ⟨its,r,p,_⟩:=I.list ha;obtain ⟨its2,r2,p2,_⟩:=I.list hb;have e1:=r.length;have e2:=r2.length;have e3:its.toArray.size=xs.length:=by simp [e1]
  refine SeqAt.eq_listAt (e:=e) p.isList p2.isList (by simp;omega) Jlk (fun j h1 h2=>?_) (zAA (.bl _) H I rfl (by rw [e3];exact q));obtain ⟨x,hx,rx⟩:=fh r h1;obtain ⟨y,hy,ry⟩:=fh r2 h2;exact (he j x y hx hy).at I rx ry (by show X.A.units+1+n<cLine;omega)
 | @lens a c xs ys ha hb hl=>
  cases rx;cases ry
  obtain ⟨its,r,p,_⟩:=I.list ha;obtain ⟨its2,r2,p2,_⟩:=I.list hb;have e1:=r.length;have e2:=r2.length;exact SeqAt.eq_list_lengthsAt p.isList p2.isList (by simp;omega) Jlk (zAA (.bl _) H I rfl q)
 | @tups a c xs ys e ha hb he=>
  cases rx;cases ry
  obtain ⟨its,r,p,_⟩:=I.tuple ha;obtain ⟨its2,r2,p2,_⟩:=I.tuple hb;have e1:=r.length;have e2:=r2.length;have e3:its.toArray.size=xs.length:=by simp [e1]
  have e4:its2.toArray.size=ys.length:=by simp [e2]
  refine SeqAt.eq_tupleAt (e:=e) (show s.heap.IsTuple a its.toArray from p) (show s.heap.IsTuple c its2.toArray from p2) Jlk (fun j h1 h2=>?_) (zAA (.bl _) H I rfl (by rw [e3,e4];exact q));obtain ⟨x,hx,rx⟩:=fh r h1;obtain ⟨y,hy,ry⟩:=fh r2 h2;exact (he j x y hx hy).at I rx ry (by show X.A.units+1+n<cLine;omega)
theorem zc{n:Nat}(hu:X.A.units+(n+1)<cLine):OpR X (compareOp .NotEq) (K4 X.K n):=by
 intro pins s σ H x y v u Q I rx ry h;obtain ⟨b,d,q⟩:=h
 cases d with
 | @lists a c xs ys e ha hb hl he=>
  cases rx;cases ry
  obtain ⟨its,r,p,_⟩:=I.list ha;obtain ⟨its2,r2,p2,_⟩:=I.list hb;have e1:=r.length;have e2:=r2.length;have e3:its.toArray.size=xs.length:=by simp [e1]
  refine SeqAt.RcNeAt.lists (A:=X.A) (e:=e) p.isList p2.isList (by simp;omega) Jlk (fun j h1 h2=>?_) X.prog X.w X.xe _ (zAA (.bl _) H I rfl (by rw [e3];exact q));obtain ⟨x,hx,rx⟩:=fh r h1;obtain ⟨y,hy,ry⟩:=fh r2 h2;exact (he j x y hx hy).at I rx ry (by show X.A.units+1+n<cLine;omega)
 | @lens a c xs ys ha hb hl=>
  cases rx;cases ry
  obtain ⟨its,r,p,_⟩:=I.list ha;obtain ⟨its2,r2,p2,_⟩:=I.list hb;have e1:=r.length;have e2:=r2.length;exact SeqAt.RcNeAt.lists_lengths (A:=X.A) p.isList p2.isList (by simp;omega) Jlk X.prog X.w X.xe _ (zAA (.bl _) H I rfl q)
 | @tups a c xs ys e ha hb he=>
  cases rx;cases ry
  obtain ⟨its,r,p,_⟩:=I.tuple ha;obtain ⟨its2,r2,p2,_⟩:=I.tuple hb;have e1:=r.length;have e2:=r2.length;have e3:its.toArray.size=xs.length:=by simp [e1]
  have e4:its2.toArray.size=ys.length:=by simp [e2]
  refine SeqAt.RcNeAt.tuples (A:=X.A) (e:=e) (show s.heap.IsTuple a its.toArray from p) (show s.heap.IsTuple c its2.toArray from p2) Jlk (fun j h1 h2=>?_) X.prog X.w X.xe _ (zAA (.bl _) H I rfl (by rw [e3,e4];exact q));obtain ⟨x,hx,rx⟩:=fh r h1;obtain ⟨y,hy,ry⟩:=fh r2 h2;exact (he j x y hx hy).at I rx ry (by show X.A.units+1+n<cLine;omega)
end
theorem yf{x:V}(h:bG x=true):eqV x x=true:=by cases x<;>first | rfl | (exact absurd h bw) | (simp [eqV])
theorem xG(n:Nat):(List.range n).all (fun _=>true)=true:=by simp
end L2
namespace L2
def cR(cells:List (Str×Addr)):List (Str×NameKind)->List (Str×Addr)->List (Str×Addr)
 | [],acc=>acc
 | (n,k)::r,acc=>if k==.free then cR cells r ((n,(cells.lookup n).getD 0)::acc) else cR cells r acc
theorem eE{scope:Scope}{env:Env}(h:∀y∈scope.names,y.2=.free->∃c,env.cells.lookup y.1=some c):closureFor scope env=pure (cR env.cells scope.names []):=by
 have key:∀(names:List (Str×NameKind)) (acc:List (Str×Addr)),(∀y∈names,y.2=.free->∃c,env.cells.lookup y.1=some c)->
   (forIn names acc fun x (r:List (Str×Addr))=>match x with
    | (name,kind)=>if (kind==.free)=true then do let c <- cellOf env name;pure (ForInStep.yield ((name,c)::r)) else pure (ForInStep.yield r))=(pure (cR env.cells names acc):Sem (List (Str×Addr))):=by
  intro names
  induction names with
  |nil=>intro acc _;rfl
  |cons y r ih=>
   intro acc hy;obtain ⟨n,k⟩:=y;rw [B0]
   cases hk:(k==NameKind.free) with
   |true=>
    have hk':k=.free:=by simpa using hk
    obtain ⟨c,hc⟩:=hy (n,k) cV hk';have e:cellOf env n=pure c:=by unfold cellOf;rw [show env.cells.lookup n=some c from hc]
    simp only [hk,if_true,e,pure_bind];rw [ih _ fun z hz=>hy z (zq9 _ hz)];simp only [cR,hk,if_true];rw [show env.cells.lookup n=some c from hc];rfl
   |false=>simp only [hk,Bool.false_eq_true,if_false,pure_bind];rw [ih _ fun z hz=>hy z (zq9 _ hz)];simp only [cR,hk,Bool.false_eq_true,if_false]
 refine (show closureFor scope env=((forIn scope.names [] fun x (r:List (Str×Addr))=>match x with
    | (name,kind)=>if (kind==.free)=true then do let c <- cellOf env name;pure (ForInStep.yield ((name,c)::r)) else pure (ForInStep.yield r)) >>= fun cs=>pure cs) from rfl).trans ?_
 rw [key scope.names [] h];rfl
theorem gO{cells:List (Str×Addr)}:∀{names:List (Str×NameKind)} {acc:List (Str×Addr)},(∀y∈names,y.2=.free->∃c,cells.lookup y.1=some c)->(∀y c,acc.lookup y=some c->cells.lookup y=some c)->
  ∀y c,(cR cells names acc).lookup y=some c->cells.lookup y=some c
 | [],_,_,ha=>ha
 | (n,k)::r,acc,hn,ha=>by
  intro y c;unfold cR
  split
  ·next hk=>
   refine gO (fun z hz=>hn z (zq9 _ hz)) (fun z d hz=>?_) y c;obtain ⟨e,he⟩:=hn (n,k) cV (by simpa using hk);rw [qY] at hz
   split at hz
   ·next hq=>
    have:z=n:=by simpa using hq
    subst this;have he':cells.lookup z=some e:=he;rw [he'] at hz ⊢;exact hz
   ·exact ha z d hz
  ·exact gO (fun z hz=>hn z (zq9 _ hz)) ha y c
theorem jI{cells:List (Str×Addr)}{y:Str}:∀{names:List (Str×NameKind)} {acc:List (Str×Addr)},(∃c,acc.lookup y=some c)->∃c,(cR cells names acc).lookup y=some c
 | [],_,h=>h
 | (n,k)::r,acc,h=>by
  unfold cR
  split
  ·refine jI ?_;rw [qY]
   split
   ·exact ⟨_,rfl⟩
   ·exact h
  ·exact jI h
theorem dQ{cells:List (Str×Addr)}{y:Str}:∀{names:List (Str×NameKind)} {acc:List (Str×Addr)},(y,NameKind.free)∈names->∃c,(cR cells names acc).lookup y=some c
 | (n,k)::r,acc,h=>by
  unfold cR;rcases zq12.mp h with e | e
  ·cases e
   rw [zq1 Jlm];exact jI ⟨(cells.lookup y).getD 0,by rw [qY,beq_self_eq_true]⟩
  ·split
   ·exact dQ e
   ·exact dQ e
structure Bk where
 C:Addr
 fp:List Addr
 s₂:Shared
 H₂:Hp
def Cx.blk(X:Cx)(N':List Str)(scope:Scope)(b:Bk):Cx:=
 {prog:=X.prog,w:=X.w,K:=X.K,mg:=X.mg,base:=X.base,A:=X.A,N:=N',s₀:=b.s₂,H₀:=b.H₂,env:=compEnvC scope (cR X.env.cells scope.names []) b.C X.env,outer:=X.stack,stack:=X.stack,ex:=b.fp,fn:=fun _=>false,calm:=X.calm,pn:=[],xe:=fun _ _=>False}
def aI(os:List (Option V))(ci:List Nat)(σ:St):St:=none::(os++ci.map fun i=>(σ[i]?).join)
def cv(J:It)(g:TG)(tt:TT)(te:TE)(nt:Nat)(ci:List Nat)(σ:St)(acc:Addr)(Q:Hp->Prop)(H0:Hp):Prop:=∃W:Nat->Nat->List V->Hp->Prop,(∃m,W 0 m [] H0)/\∀i m ys H,W i m ys H->
 (J.stop i H/\Q H)\/(J.go i H/\∃N:List V->Hp->Prop,(∀zs H',N zs H'->∃m',m'<m/\W (i+1) m' zs H')/\∀y H' os,os.length=nt->J.yld i H y H'->g y (aI os ci σ) H' fun σ1 H1=>(∃os',os'.length=nt/\σ1=aI os' ci σ)/\tt σ1 H1 fun b H2=>if b=true then te σ1 H2 fun z H3=>H3 acc=some (.lst ys)/\ys.length<sizeLine/\N (ys++[z]) (upd H3 acc (.lst (ys++[z]))) else N ys H2)
def kD(wi:TI)(g:Bk->TG)(tt:Bk->TT)(te:Bk->TE)(nt:Nat)(ci:List Nat):TE:=fun σ H Q=>wi σ H fun J H1=>∀acc,H1 acc=none->∀bk:Bk,cv J (g bk) (tt bk) (te bk) nt ci σ acc (fun H'=>Q (.ref acc) H') (upd H1 acc (.lst []))
def vM(X:Cx)(ifs:List Expr)(t:TT):Prop:=
 ∀(pins:List (Addr×Obj)) (s:Shared) (σ:St) (H:Hp) (Q:Bool->Hp->Prop),Inv X pins σ H s->t σ H Q->
  wpAny (model X.prog X.w) X.A (forIn ifs true fun c r=>if r=true then do let ok <- isTrue c X.env (eval c X.env);pure (ForInStep.yield ok) else pure (ForInStep.yield r)) (TP X pins σ Q) X.xe s
def jo:TT:=fun _ H Q=>Q true H
structure CompSc(X:Cx)(scope:Scope)(cns:List Str)(ci:List Nat):Prop where
 kind:scope.kind=.function
 cell:∀y∈scope.names,y.2≠.cell
 names:∀y∈scope.names,y.2=.local->scope.names.lookup y.1=some .local
 free:∀y∈scope.names,y.2=.free->X.env.kindOf y.1=some .cell\/X.env.kindOf y.1=some .free
 cap:∀(j:Nat)x,cns[j]?=some x->∃i,ci[j]?=some i/\X.N[i]?=some x/\(x,NameKind.free)∈scope.names
 len:cns.length=ci.length
 noloc:∀y,(y,NameKind.free)∈scope.names->¬(relabel scope X.env).names.lookup y=some .local
theorem dG{env:Env}:∀{names:List (Str×NameKind)} {y:Str} {k:NameKind},(names.map fun (n,k)=>if (k==NameKind.free&&env.scope.kind==.function&&env.kindOf n==some .cell) then (n,NameKind.cell) else (n,k)).lookup y=some k->k=.cell\/k=.free->
  (∀z∈names,z.2≠.cell)->(y,NameKind.free)∈names
 | [],_,_,h,_,_=>by simp at h
 | (n,k0)::r,y,k,h,hk,hc=>by
  rw [ce,qY] at h
  by_cases hf:(k0==NameKind.free&&env.scope.kind==.function&&env.kindOf n==some .cell)=true
  ·simp only [hf,if_true] at h;have k0f:k0=.free:=by have:=hf;simp only [Bool.and_eq_true] at this;simpa using this.1.1
   split at h
   ·next hq=>
    have:y=n:=by simpa using hq
    subst this;subst k0f;exact cV
   ·exact zq9 _ (dG h hk fun z hz=>hc z (zq9 _ hz))
  ·simp only [hf] at h
   split at h
   ·next hq=>
    have:y=n:=by simpa using hq
    subst this;have e:k0=k:=by simpa using h
    subst e;rcases hk with z | z
    ·exact absurd z (hc _ cV)
    ·subst z;exact cV
   ·exact zq9 _ (dG h hk fun z hz=>hc z (zq9 _ hz))
section
variable {prog:Program} {w:World} {A:Around} {R:Result->Shared->Prop} {s:Shared}
theorem gR{elt target iter:Expr}{ifs:List Expr}{scope:Scope}{pos:Pos}{it acc:Value}{env:Env}(I:Nat->Shared->Prop)
  (turn:∀n s,I n s->wpAny (model prog w) A (pyNext it) (fun r s₁=>match r with
   |none=>R (.ok .next) s₁
   |some v=>wpAny (model prog w) A (letOwnedTupleGo target it v) (fun _ s₅=>wpAny (model prog w) A (assign target env v) (fun _ s₂=>
     wpAny (model prog w) A (forIn ifs true fun c r=>if r=true then do let ok <- isTrue c env (eval c env);pure (ForInStep.yield ok) else pure (ForInStep.yield r)) (fun ok s₃=>
      if ok=true then wpAny (model prog w) A (eval elt env) (fun x s₄=>wpAny (model prog w) A (call (.builtin "list.append") [acc,x]) (fun _ s₅=>∃m,m<n/\I m s₅) (fun _ _=>False) s₄) (fun _ _=>False) s₃
      else ∃m,m<n/\I m s₃) (fun _ _=>False) s₂) (fun _ _=>False) s₅) (fun _ _=>False) s₁) (fun _ _=>False) s)
  (n:Nat) (h:I n s) :
  codeAny (model prog w) A (.compLoop (.ListComp elt [⟨target,iter,ifs,0⟩] scope pos) 0 it acc env) R s:=by
 refine codeAny_loop rfl I (fun n s hI=>?_) n h;show wpAny _ _ ((compTurn (.ListComp elt [⟨target,iter,ifs,0⟩] scope pos) 0 it acc env).onRaise (fun x=>do noteFrame x env;theTreesLotGoes x)) _ _ s;refine wpAny_noted ?_;rw [compTurn_list];refine zq2 (wpAny_standAt (zq2 (iw (turn n s hI) (fun r s₁ h₁=>?_) fun _ _ h'=>h'.elim)))
 cases r with
 |none=>exact zq4 h₁
 |some v=>
  refine zq2 (iw h₁ (fun _ s₅ h₅=>?_) fun _ _ h'=>h'.elim);refine zq2 (iw h₅ (fun _ s₂ h₂=>zq2 (iw h₂ (fun ok s₃ h₃=>?_) fun _ _ h'=>h'.elim)) fun _ _ h'=>h'.elim)
  cases ok with
  |true=>
   rw [zq1 rfl] at h₃;exact zq2 (zq2 (iw h₃ (fun x s₃ h₃=>zq2 (iw h₃ (fun _ s₄ h₄=>zq4 (zq4 ⟨rfl,h₄⟩)) fun _ _ h'=>h'.elim)) fun _ _ h'=>h'.elim))
  |false=>rw [zq0 bw] at h₃;exact zq2 (zq4 (zq4 ⟨rfl,h₃⟩))
end
theorem lE{X:Cx}{elt iter tgt:Expr}{ifs:List Expr}{pos:Pos}{scope:Scope}{g:Bk->TG}{tt:Bk->TT}{te:Bk->TE}{tns cns:List Str}{ci:List Nat}{RR:Value->Addr->Result->Shared->Prop}{E:Value->Shared->Prop}
  {pins:List (Addr×Obj)} {σ:St} {H2:Hp} {s2:Shared} {it:Addr} {fp:List Addr} {tn:Nat->Heap->Prop} {J:It} {Q:Addr->Hp->Prop}
  (hc:X.calm=true) (S:CompSc X scope cns ci)
  (hg:∀bk:Bk,PG (X.blk (".0"::(tns++cns)) scope bk) tgt (g bk))
  (ht:∀bk:Bk,vM (X.blk (".0"::(tns++cns)) scope bk) ifs (tt bk))
  (he:∀bk:Bk,PE (X.blk (".0"::(tns++cns)) scope bk) elt (te bk))
  (I2:Inv X pins σ H2 s2) (T:kM X.prog X.w X.K tgt J fp it tn) (st2:tn 0 s2.heap) (f2:∀b∈fp,jh X pins H2 b)
  (hcw:∀acc,H2 acc=none->∀bk:Bk,cv J (g bk) (tt bk) (te bk) tns.length ci σ acc (Q acc) (upd H2 acc (.lst [])))
  (fin:∀D C s5 H4 m,Inv X pins σ H4 s5->s5.heap.Ns C m->jh X pins H4 C->Q D H4->RR (.ref D) C (.ok .next) s5) :
  wpAny (model X.prog X.w) X.A (newList []) (fun acc s₃=>wpAny (model X.prog X.w) X.A (newFunctionEnv scope X.env.globals (cR X.env.cells scope.names []) [] X.env.qual none .none (some X.env)) (fun cenv s₄=>codeAny (model X.prog X.w) X.A (.compStart (.ListComp elt [⟨tgt,iter,ifs,0⟩] scope pos) 0 (.ref it) acc {cenv with scope:=relabel scope X.env}) (RR acc cenv.locals) s₄) E s₃) E s2:=by
 have hfc:∀y∈scope.names,y.2=.free->∃c,X.env.cells.lookup y.1=some c:=fun y hy hk=>I2.ok.has _ (S.free y hy hk);have hsub:∀y c,(cR X.env.cells scope.names []).lookup y=some c->X.env.cells.lookup y=some c:=gO hfc (fun y c e=>by simp at e);refine wpAny_newObj_type (wpAny_newFunctionEnv S.cell (by intro y hy;simp at hy) (fun h₁ hns₁ hsb₁=>?_) S.kind);dsimp only at hns₁ hsb₁ ⊢;generalize hH2:s2.heap.push {cls:=.type "list",dict:=none,data:=.seq ([]:List Value).toArray}=G2 at hns₁ hsb₁ ⊢;have hCz:G2.objs.size=s2.heap.objs.size+1:=by rw [<- hH2,kU]
 have hDC:s2.heap.objs.size≠G2.objs.size:=by rw [hCz];exact cF (Bt _)
 have below:∀b,b<s2.heap.objs.size->b≠G2.objs.size:=fun b hb=>by omega
 have old:∀b o,s2.heap.get? b=some o->h₁.get? b=some o:=fun b o e=>hsb₁.extBut b o (below b (bT e)) (cc _ (hH2 ▸ cc _ e));have hacc:h₁.get? s2.heap.objs.size=some {cls:=.type "list",dict:=none,data:=.seq ([]:List Value).toArray}:=hsb₁.extBut _ _ hDC (cc _ (hH2 ▸ du _ rfl));have hnD:H2 s2.heap.objs.size=none:=I2.hok.fresh (zq5 _);have hnC:H2 G2.objs.size=none:=I2.hok.fresh Jlk;obtain ⟨W,⟨m0,w0⟩,turn⟩:=hcw s2.heap.objs.size hnD ⟨G2.objs.size,fp,s2,H2⟩;have nlt:∀{b:Addr} {o:Obj},s2.heap.get? b=some o->b≠s2.heap.objs.size:=fun q=>cF (bT q);have fpl:∀b∈fp,b<s2.heap.objs.size:=fun b hb=>by obtain ⟨o,e,_⟩:=T.obj _ _ st2 b hb;exact bT e
 have clt:∀y c,(cR X.env.cells scope.names []).lookup y=some c->c<s2.heap.objs.size:=fun y c e=>by obtain ⟨v,q⟩:=I2.cell y c (hsub y c e);exact q.lt
 have hasC:∀y,((relabel scope X.env).names.lookup y=some .cell\/(relabel scope X.env).names.lookup y=some .free)->∃c,(cR X.env.cells scope.names []).lookup y=some c:=fun y hk=>by
  rcases hk with z | z
  ·exact dQ (dG z (.inl rfl) S.cell)
  ·exact dQ (dG z (.inr rfl) S.cell)
 have ok:(X.blk (".0"::(tns++cns)) scope ⟨G2.objs.size,fp,s2,H2⟩).Ok:={
  mod:=I2.ok.mod
  kind:=S.kind
  glob:=I2.ok.glob
  blt:=I2.ok.blt
  above:=by show s2.heap.objs.size<=G2.objs.size;omega
  inj:=fun y z c e1 e2=>I2.ok.inj y z c (hsub y c e1) (hsub z c e2)
  has:=fun y hk=>hasC y hk
  cab:=fun y c e=>by
   have e':(false=true):=e
   cases e'
  hd:=I2.ok.hd
  frames:=I2.ok.frames
  stk:=.inl rfl
  exf:=fun b hb=>⟨below b (fpl b hb),fun y c e=>(f2 b hb).2.2.2.2.1 y c (hsub y c e)⟩
  bs:=I2.bs
  bsz:=dI I2.ok.bsz I2.sz
  noex:=fun b o e hb=>by
   rcases (f2 b hb).2.2.2.1 with z | z
   ·exact I2.ok.noex b o e z
   ·exact absurd (fj (bT e) (dI I2.ok.bsz z)) (nM _)
  exfs:=fun b hb hf=>by
   rcases zq12.mp (I2.stkSub b hf) with z | z
   ·exact (f2 b hb).2.1 z
   ·exact (f2 b hb).2.2.1 z
  funs:=I2.stack
  frf:=I2.stkFree}
 have hokD:HOk X.prog X.w (upd H2 s2.heap.objs.size (.lst [])) h₁:=I2.hok.laid old (zq5 _) ⟨cq _,zAD ([]) 0 .nil hacc⟩;have clD:∀y c,(cR X.env.cells scope.names []).lookup y=some c->c≠s2.heap.objs.size:=fun y c e=>cF (clt y c e);have I3:Inv (X.blk (".0"::(tns++cns)) scope ⟨G2.objs.size,fp,s2,H2⟩) [] (aI (List.replicate tns.length none) ci σ) (upd H2 s2.heap.objs.size (.lst [])) {s2 with heap:=h₁,toks:=s2.toks+([]:List (Str×Value)).length}:={
  ok:=ok
  os:=rfl
  bare:=I2.bare
  base:=⟨fun b o e n _ _=>old b o e,fun b o e n _ _=>⟨o.slots,old b o e⟩,fun b o e n _=>by rw [ao (nlt e)];exact n,fun b o e _=>⟨o,old b o e⟩,
   fun b ys e=>by rw [ao (am e hnD)];exact e,fun b o u e=>by rw [ao (am e hnD)];exact e,fun b ps e=>⟨#[],by rw [ao (am e hnD),Array.append_empty];exact e⟩⟩
  loc:=⟨_,hns₁,fun i y v e1 e2 e3=>by
   have e1':((".0":Str)::(tns++cns))[i]?=some y:=e1;unfold aI at e2
   cases i with
   |zero=>simp at e2
   |succ i=>
    rw [B1] at e1' e2
    by_cases hi:i<tns.length
    ·rw [jp (by simpa using hi),Bv,zq1 hi] at e2
     cases e2
    ·rw [iy Jlk] at e1';rw [iy (by simp;omega),vC] at e2;obtain ⟨q,hq,hN,hm⟩:=S.cap _ _ e1';rw [bE,hq] at e2;have e2':(σ[q]?).join=some v:=by simpa using e2
     have e4:σ[q]?=some (some v):=by
      cases z:σ[q]? with
      |none=>rw [z] at e2';cases e2'
      |some o=>rw [z] at e2';rw [show o=some v from e2']
     obtain ⟨m,hns,hl⟩:=I2.loc;have hvis:Vis X.env.scope y:=by
      rcases S.free (y,.free) hm rfl with z | z
      ·exact .inr (.inl z)
      ·exact .inr (.inr z)
     obtain ⟨u,ru,lk⟩:=hl q y v hN e4 hvis;refine zn u ru (.inr ?_);have hkk:X.env.kindOf y=some .cell\/X.env.kindOf y=some .free:=S.free (y,.free) hm rfl;rcases lk with ⟨k1,_⟩ | ⟨_,c,hc1,hc2⟩
     ·rcases hkk with z | z<;>(rw [k1] at z;cases z)
     ·obtain ⟨c',hc'⟩:=dQ (cells:=X.env.cells) (acc:=[]) hm;have ecc:c'=c:=by have:=hsub y c' hc';rw [hc1] at this;cases this;rfl
      subst ecc;have e3':Vis (relabel scope X.env) y:=e3;refine ⟨?_,zn c' hc' ?_⟩
      ·rcases e3' with z | z | z
       ·exfalso;exact S.noloc y hm z
       ·exact .inl z
       ·exact .inr z
      ·exact hc2.keeps old⟩
  cell:=fun y c e=>by obtain ⟨v,q⟩:=I2.cell y c (hsub y c e);exact ⟨v,q.keeps old⟩
  free:=by show upd H2 s2.heap.objs.size (.lst []) G2.objs.size=none;rw [ao (Ne.symm hDC)];exact hnC
  freeC:=fun y c e=>by rw [ao (clD y c e)];exact I2.freeC y c (hsub y c e)
  pin:=fun p hp=>by have hp':p∈([]:List (Addr×Obj))++[]:=hp;simp at hp'
  hok:=hokD
  len:=by show (aI _ ci σ).length=((".0":Str)::(tns++cns)).length;unfold aI;simp [S.len]}
 have st3:tn 0 h₁:=T.keep _ _ _ st2 fun b _ o e=>old b o e;have fr3:∀b∈fp,upd H2 s2.heap.objs.size (.lst []) b=none:=fun b hb=>by rw [ao (cF (fpl b hb))];exact (f2 b hb).1
 have stat:∀{H':Hp},(∀b∈fp,H' b=none)->∀b∈fp,jh (X.blk (".0"::(tns++cns)) scope ⟨G2.objs.size,fp,s2,H2⟩) [] H' b:=fun hn b hb=>zAQ (hn b hb) (below b (fpl b hb)) (ok.exfs b hb) (.inl hb) (fun y c e=>(f2 b hb).2.2.2.2.1 y c (hsub y c e)) (fun p hp=>by have hp':p∈([]:List (Addr×Obj))++[]:=hp;simp at hp')
 have loop:∀s₃:Shared,s₃={s2 with heap:=h₁,toks:=s2.toks+([]:List (Str×Value)).length}->
   codeAny (model X.prog X.w) X.A (.compLoop (.ListComp elt [⟨tgt,iter,ifs,0⟩] scope pos) 0 (.ref it) (.ref s2.heap.objs.size) (compEnvC scope (cR X.env.cells scope.names []) G2.objs.size X.env))
    (RR (.ref s2.heap.objs.size) G2.objs.size) s₃:=by
  rintro s₃ rfl;refine gR (fun n s'=>∃(i:Nat)(os:List (Option V)) (ys:List V) (H':Hp),os.length=tns.length/\Inv (X.blk (".0"::(tns++cns)) scope ⟨G2.objs.size,fp,s2,H2⟩) [] (aI os ci σ) H' s'/\tn i s'.heap/\(∀b∈fp,H' b=none)/\W i n ys H') ?_ m0 (zAM 0 _ ([]) _ Jll I3 st3 fr3 w0);rintro n s4 ⟨i,os,ys,H4,hos,I4,st4,fr4,w4⟩;rcases turn i n ys H4 w4 with ⟨stop,q⟩ | ⟨go,N,hN,step⟩
  ·refine thn (T.done (X.blk (".0"::(tns++cns)) scope ⟨G2.objs.size,fp,s2,H2⟩) rfl rfl rfl hc i [] s4 _ H4 (fun _ _=>False) I4 (stat fr4) st4 stop) fun r s5 ⟨hr,I5⟩=>?_;subst hr;obtain ⟨m,hm,_⟩:=I5.loc;have fC:H4 G2.objs.size=none:=I5.free;have ub:Un (frs X.stack) fp H2 H4 s2.heap s5.heap:=I5.base;have IX:Inv X pins σ H4 s5:=I2.call' (s':=s5) (show s5.os=s2.os from I5.os) ub I5.hok I5.bare fun b hb=>zAF (f2 b hb).2.2.2.1 (f2 b hb).2.1 (f2 b hb).2.2.2.2.1 (f2 b hb).2.2.2.2.2
   exact fin _ _ s5 H4 m IX hm (I2.fpOk Jlk fC) q
  ·refine thn (T.item (X.blk (".0"::(tns++cns)) scope ⟨G2.objs.size,fp,s2,H2⟩) rfl rfl rfl hc i [] s4 _ H4 (fun _ _=>False) I4 (stat fr4) st4 go) fun r s5 ⟨u,hr,h5⟩=>?_;subst hr;refine thn h5 fun _ s6 hhx=>?_;obtain ⟨y,H6,I6,r6,y6,st6,fr6⟩:=hhx;have I6':=I6.pinned (stat fr6) (T.obj _ _ st6);refine thn (hg _ _ s6 _ H6 y u _ I6' r6 (step y H6 os hos y6)) fun _ s7 ⟨σ7,H7,I7,⟨os',hos',e7⟩,q7⟩=>?_;subst e7;have back:∀{H9:Hp} {s9:Shared},Inv (X.blk (".0"::(tns++cns)) scope ⟨G2.objs.size,fp,s2,H2⟩) ([]++gI fp s6.heap) (aI os' ci σ) H9 s9->tn (i+1) s9.heap/\∀b∈fp,H9 b=none:=fun {H9 s9} I9=>⟨T.keep _ _ _ st6 fun b hb ob e=>(I9.pin (b,ob) (d5 _ (d5 _ (cL hb e)))).1,fun b hb=>by obtain ⟨ob,e,d⟩:=T.obj _ _ st6 b hb;exact (I9.pin (b,ob) (d5 _ (d5 _ (cL hb e)))).2.1⟩
   refine thn (ht _ _ s7 _ H7 _ I7 q7) fun b s8 hhx=>?_;obtain ⟨H8,I8,q8⟩:=hhx
   cases b with
   |false=>
    rw [zq0 bw] at q8 ⊢;obtain ⟨m',hm',w8⟩:=hN _ _ q8;exact zn m' hm' (zAM (i+1) os' ys _ hos' I8.unpinned (back I8).1 (back I8).2 w8)
   |true=>rw [zq1 rfl] at q8 ⊢;refine thn (he _ _ s8 _ H8 _ I8 q8) fun zv s8 hhx=>?_;obtain ⟨z,H8,I8,rz,ha8,hl8,n8⟩:=hhx;obtain ⟨m',hm',w8⟩:=hN _ _ n8;refine thn (aZ (X:=X.blk (".0"::(tns++cns)) scope ⟨G2.objs.size,fp,s2,H2⟩) _ s8 _ H8 (.ref s2.heap.objs.size) [z] (.ref s2.heap.objs.size) [zv] (fun _ H9=>H9=upd H8 s2.heap.objs.size (.lst (ys++[z]))) I8 rfl (.cons rz .nil) (zAL _ ys z rfl rfl ha8 hl8 rfl)) fun _ s9 hhx=>?_;obtain ⟨_,H9,I9,_,e9⟩:=hhx;subst e9;exact zn m' hm' (zAM (i+1) os' (ys++[z]) _ hos' I9.unpinned (back I9).1 (back I9).2 w8)
 exact codeAny_compStart_list (loop _ rfl) (T.self _ 0 _ _ _ st3 (loop _ rfl))
theorem zh{X:Cx}{elt iter tgt:Expr}{ifs:List Expr}{pos:Pos}{scope:Scope}{wi:TI}{g:Bk->TG}{tt:Bk->TT}{te:Bk->TE}{tns cns:List Str}{ci:List Nat}(hc:X.calm=true)(S:CompSc X scope cns ci)(hi:PI X tgt iter wi)
  (hg:∀bk:Bk,PG (X.blk (".0"::(tns++cns)) scope bk) tgt (g bk))
  (ht:∀bk:Bk,vM (X.blk (".0"::(tns++cns)) scope bk) ifs (tt bk))
  (he:∀bk:Bk,PE (X.blk (".0"::(tns++cns)) scope bk) elt (te bk))
  (hs:∀v,foldedSetIterable iter X.env v=pure v:=by intro _;rfl) :
  PE X (.ListComp elt [⟨tgt,iter,ifs,0⟩] scope pos) (kD wi g tt te tns.length ci):=by
 intro pins s σ H Q I h;have hfc:∀y∈scope.names,y.2=.free->∃c,X.env.cells.lookup y.1=some c:=fun y hy hk=>I.ok.has _ (S.free y hy hk);rw [eval_ListComp];refine wpAny_comprehension_free (use:=none) rfl hs (eE hfc) S.kind S.names (thn (hi pins s σ H _ I h) fun v s1 h1=>thn h1 fun itv s2 h2=>?_);obtain ⟨it,fp,tn,J,H2,rfl,I2,T,st2,f2,hcw⟩:=h2;refine lE (RR:=fun acc C=>compPost (model X.prog X.w) X.A X.xe none (EP X pins σ Q) acc C) hc S hg ht he I2 T st2 f2 hcw fun D C s5 H4 m I5 hm fo q=>?_;refine zn m hm fun h' hs'=>zAA (.ref D) H4 ?_ rfl q;exact I5.turned (t':=s5.toks) (it:=C) (fun b o hb e=>(hs'.2 b hb).trans e) fo.1 fo.2.1 fo.2.2.2.1 fo.2.2.2.2.1 fo.2.2.2.2.2
def ku(i:Nat)(wi:TI)(g:Bk->TG)(tt:Bk->TT)(te:Bk->TE)(nt:Nat)(ci:List Nat):TS:=fun D σ H=>wi σ H fun J H1=>∀acc,H1 acc=none->∀bk:Bk,cv J (g bk) (tt bk) (te bk) nt ci σ acc (fun H'=>D.nx (σ.set i (some (.ref acc))) H') (upd H1 acc (.lst []))
theorem su{X:Cx}{i:Nat}{x:Str}{px pos':Pos}{elt iter tgt:Expr}{ifs:List Expr}{pos:Pos}{scope:Scope}{wi:TI}{g:Bk->TG}{tt:Bk->TT}{te:Bk->TE}{tns cns:List Str}{ci:List Nat}
  (hN:X.N.Nodup) (hx:X.N[i]?=some x) (hl:Loc X.env.scope x) (hf:X.fn x=true) (hsw:swapsWith (.ListComp elt [⟨tgt,iter,ifs,0⟩] scope pos) (some (.Name x px)) pos'.line X.env=pure true)
  (hc:X.calm=true) (S:CompSc X scope cns ci) (hi:PI X tgt iter wi)
  (hg:∀bk:Bk,PG (X.blk (".0"::(tns++cns)) scope bk) tgt (g bk))
  (ht:∀bk:Bk,vM (X.blk (".0"::(tns++cns)) scope bk) ifs (tt bk))
  (he:∀bk:Bk,PE (X.blk (".0"::(tns++cns)) scope bk) elt (te bk))
  (hs:∀v,foldedSetIterable iter X.env v=pure v:=by intro _;rfl) :
  PS X (.Assign [.Name x px] (.ListComp elt [⟨tgt,iter,ifs,0⟩] scope pos) pos') (ku i wi g tt te tns.length ci):=by
 intro pins s σ H D I h;have hfc:∀y∈scope.names,y.2=.free->∃c,X.env.cells.lookup y.1=some c:=fun y hy hk=>I.ok.has _ (S.free y hy hk);rw [exec_Assign_Name_used _ _ _ _ hsw];refine zq2 (wpAny_standAt (zq2 ?_));show wpAny _ _ (do let _ <- comprehension (.ListComp elt [⟨tgt,iter,ifs,0⟩] scope pos) scope X.env _ (newList []) false (eval iter X.env) (some (assign (.Name x px) X.env))) _ _ s;refine zq2 (iw (wpAny_comprehension_free (use:=some (assign (.Name x px) X.env)) (Q:=fun _ s'=>SP X pins D .next s') rfl hs (eE hfc) S.kind S.names
  (thn (hi pins s σ H _ I h) fun v s1 h1=>thn h1 fun itv s2 h2=>?_)) (fun _ s' hq=>zq4 (zq4 hq)) fun _ _ e=>e)
 obtain ⟨it,fp,tn,J,H2,rfl,I2,T,st2,f2,hcw⟩:=h2;refine lE (RR:=fun acc C=>compPost (model X.prog X.w) X.A X.xe (some (assign (.Name x px) X.env)) (fun _ s'=>SP X pins D .next s') acc C) hc S hg ht he I2 T st2 f2 hcw fun D' C s5 H4 m I5 hm fo q=>?_;obtain ⟨o,es,ep,ho,hd,hr⟩:=id hm;have IP:Inv X (pins++gI [C] s5.heap) σ H4 s5:=I5.pinned (fp:=[C]) (fun b hb=>by rw [zq10.mp hb];exact fo) fun b hb=>by rw [zq10.mp hb];exact zn o ho (fun v z=>by rw [hd] at z;cases z)
 show wpAny _ _ (assign (.Name x px) X.env (.ref D')) _ _ s5;refine thn (uF (X:=X) (i:=i) hN hx hl (.inl hf) _ s5 σ H4 (.ref D') (.ref D') (fun σ' H'=>σ'=σ.set i (some (.ref D'))/\H'=H4) IP rfl ⟨rfl,rfl⟩) fun _ s6 hhx=>?_;obtain ⟨σ6,H6,I6,e1,e2⟩:=hhx;subst e1 e2;have hC6:s6.heap.get? C=some o:=(I6.pin (C,o) (d5 _ (d5 _ (cL (zq10.mpr rfl) ho)))).1;refine zn m (zAN o es ep hC6 hd hr) fun h' hs'=>zAD _ _ ?_ q;exact I6.unpinned.turned (t':=s6.toks) (it:=C) (fun b o hb e=>(hs'.2 b hb).trans e) fo.1 fo.2.1 fo.2.2.2.1 fo.2.2.2.2.1 fo.2.2.2.2.2
def x8(scope osc:Scope):List (Str×NameKind):=scope.names.map fun (n,k)=>if (k==NameKind.free&&osc.kind==.function&&osc.names.lookup n==some .cell) then (n,NameKind.cell) else (n,k)
def jG(N:List Str)(names:List (Str×NameKind)):List Str->List Nat->Bool
 | [],[]=>true
 |x::xs,i::is=>N[i]?==some x&&names.any (fun y=>y.1==x&&y.2==.free)&&jG N names xs is
 |_,_=>false
def Ij(osc:Scope)(N:List Str)(scope:Scope)(cns:List Str)(ci:List Nat):Bool:=
 scope.kind==.function&&scope.names.all (fun y=>y.2 != .cell)&&scope.names.all (fun y=>y.2 != .local || scope.names.lookup y.1==some .local) &&
 scope.names.all (fun y=>y.2 != .free || (osc.names.lookup y.1==some .cell || osc.names.lookup y.1==some .free))&&jG N scope.names cns ci &&
 scope.names.all (fun y=>y.2 != .free || (x8 scope osc).lookup y.1 != some .local)
theorem iC{N:List Str}{names:List (Str×NameKind)}:∀{cns:List Str} {ci:List Nat},jG N names cns ci=true->cns.length=ci.length/\∀(j:Nat)x,cns[j]?=some x->∃i,ci[j]?=some i/\N[i]?=some x/\(x,NameKind.free)∈names
 | [],[],_=>⟨rfl,fun j x e=>by simp at e⟩
 | [],_::_,h=>by simp [jG] at h
 |_::_,[],h=>by simp [jG] at h
 |x::xs,i::is,h=>by
  unfold jG at h;rw [eG,eG] at h;obtain ⟨⟨h1,h2⟩,h3⟩:=h;obtain ⟨l,r⟩:=iC h3;refine ⟨by simp [l],fun j y e=>?_⟩
  cases j with
  |zero=>
   have e':x=y:=by simpa using e
   subst e';refine zAC i Jll (by simpa using h1) ?_;obtain ⟨z,hz,hq⟩:=zq100.mp h2;rw [eG] at hq;obtain ⟨a,b⟩:=z;have e1:a=x:=by simpa using hq.1
   have e2:b=.free:=by simpa using hq.2
   subst e1 e2;exact hz
  |succ j=>obtain ⟨k,hk⟩:=r j y (by simpa using e);exact zn k (by simpa using hk.1) hk.2
theorem CompSc.of{X:Cx}{scope:Scope}{cns:List Str}{ci:List Nat}(h:Ij X.env.scope X.N scope cns ci=true):CompSc X scope cns ci:=by
 unfold Ij at h;rw [eG,eG,eG,eG,eG] at h;obtain ⟨⟨⟨⟨⟨h1,h2⟩,h3⟩,h4⟩,h5⟩,h6⟩:=h;obtain ⟨l,r⟩:=iC h5;refine ⟨by simpa using h1,fun y hy=>?_,fun y hy hk=>?_,fun y hy hk=>?_,r,l,fun y hy z=>?_⟩
 ·simpa using zq44.mp h2 y hy
 ·have:=zq44.mp h3 y hy;rw [qZ] at this;rcases this with q | q
  ·exact absurd hk (by simpa using q)
  ·simpa using q
 ·have:=zq44.mp h4 y hy;rw [qZ,qZ] at this;rcases this with q | q | q
  ·exact absurd hk (by simpa using q)
  ·exact .inl (show X.env.scope.names.lookup y.1=_ by simpa using q)
  ·exact .inr (show X.env.scope.names.lookup y.1=_ by simpa using q)
 ·have:=zq44.mp h6 _ hy;rw [qZ] at this;rcases this with q | q
  ·simp at q
  ·have z':(x8 scope X.env.scope).lookup y=some .local:=z;have q':((x8 scope X.env.scope).lookup y != some .local)=true:=q;rw [z'] at q';exact absurd q' Jkm
section
variable {K:W.Frag} {g:TG} {tt:TT} {te:TE} {nt:Nat} {ci:List Nat} {σ:St} {acc:Addr} {Q:Hp->Prop} {H0:Hp}
theorem d6{a:Addr}{xs:List V}(Pv:Nat->List V->Hp->Prop)(h0:Pv 0 [] H0)(hl:∀i ys H,i<=xs.length->Pv i ys H->SqL K H a xs)
  (hs:∀(i:Nat)x ys H os,xs[i]?=some x->os.length=nt->Pv i ys H->g x (aI os ci σ) H fun σ1 H1=>(∃os',os'.length=nt/\σ1=aI os' ci σ)/\tt σ1 H1 fun b H2=>if b=true then te σ1 H2 fun z H3=>H3 acc=some (.lst ys)/\ys.length<sizeLine/\Pv (i+1) (ys++[z]) (upd H3 acc (.lst (ys++[z]))) else Pv (i+1) ys H2)
  (hd:∀ys H,Pv xs.length ys H->Q H):cv (Itl K a) g tt te nt ci σ acc Q H0:=by
 refine zn (fun i m ys H=>m=xs.length-i/\i<=xs.length/\Pv i ys H) (zAC xs.length Jll (cq _) h0) ?_;rintro i m ys H ⟨rfl,hi,p⟩;have q:=hl i ys H hi p
 by_cases hlt:i<xs.length
 ·refine .inr ⟨zAD xs (xs[i]) q (by simp [hlt]),zn (Pv (i+1)) (fun ys' H' p'=>zAG (xs.length-(i+1)) Jlk rfl hlt p') fun y H' os ho yl=>?_⟩;obtain ⟨rfl,yl⟩:=yl;exact hs i y ys H' os (yl xs q) ho p
 ·have e:i=xs.length:=by omega
  subst e;exact .inl ⟨zn xs q (zq5 _),hd ys H p⟩
theorem F9{a:Addr}{xs:List V}(Pv:Nat->List V->Hp->Prop)(h0:Pv 0 [] H0)(hl:∀i ys H,i<=xs.length->Pv i ys H->SqT K H a xs)
  (hs:∀(i:Nat)x ys H os,xs[i]?=some x->os.length=nt->Pv i ys H->g x (aI os ci σ) H fun σ1 H1=>(∃os',os'.length=nt/\σ1=aI os' ci σ)/\tt σ1 H1 fun b H2=>if b=true then te σ1 H2 fun z H3=>H3 acc=some (.lst ys)/\ys.length<sizeLine/\Pv (i+1) (ys++[z]) (upd H3 acc (.lst (ys++[z]))) else Pv (i+1) ys H2)
  (hd:∀ys H,Pv xs.length ys H->Q H):cv (Itt K a) g tt te nt ci σ acc Q H0:=by
 refine zn (fun i m ys H=>m=xs.length-i/\i<=xs.length/\Pv i ys H) (zAC xs.length Jll (cq _) h0) ?_;rintro i m ys H ⟨rfl,hi,p⟩;have q:=hl i ys H hi p
 by_cases hlt:i<xs.length
 ·refine .inr ⟨zAD xs (xs[i]) q (by simp [hlt]),zn (Pv (i+1)) (fun ys' H' p'=>zAG (xs.length-(i+1)) Jlk rfl hlt p') fun y H' os ho yl=>?_⟩;obtain ⟨rfl,yl⟩:=yl;exact hs i y ys H' os (yl xs q) ho p
 ·have e:i=xs.length:=by omega
  subst e;exact .inl ⟨zn xs q (zq5 _),hd ys H p⟩
theorem oz{lo:Int}{n:Nat}(Pv:Nat->List V->Hp->Prop)(h0:Pv 0 [] H0)
  (hs:∀(i:Nat)ys H os,i<n->os.length=nt->Pv i ys H->g (.int (lo+i)) (aI os ci σ) H fun σ1 H1=>(∃os',os'.length=nt/\σ1=aI os' ci σ)/\tt σ1 H1 fun b H2=>if b=true then te σ1 H2 fun z H3=>H3 acc=some (.lst ys)/\ys.length<sizeLine/\Pv (i+1) (ys++[z]) (upd H3 acc (.lst (ys++[z]))) else Pv (i+1) ys H2)
  (hd:∀ys H,Pv n ys H->Q H):cv (Itr lo n) g tt te nt ci σ acc Q H0:=by
 refine zn (fun i m ys H=>m=n-i/\i<=n/\Pv i ys H) (zAC n Jll (cq _) h0) ?_;rintro i m ys H ⟨rfl,hi,p⟩
 by_cases hlt:i<n
 ·refine .inr ⟨hlt,zn (Pv (i+1)) (fun ys' H' p'=>zAG (n-(i+1)) Jlk rfl hlt p') fun y H' os ho yl=>?_⟩;obtain ⟨rfl,rfl⟩:=yl;exact hs i ys H' os hlt ho p
 ·have e:i=n:=by omega
  subst e;exact .inl ⟨zq5 _,hd ys H p⟩
end
end L2
namespace L2
def isiT:List String:=["int","bool","str","list","tuple","dict"]
inductive gm (K:W.Frag) (H:Hp):V->String->Prop where
 |non:gm K H .non "NoneType"
 |bl {b:Bool}:gm K H (.bl b) "bool"
 |int {i:Int}:gm K H (.int i) "int"
 |str {x:Str}:gm K H (.str x) "str"
 |lst {a:Addr} {xs:List V} (h:SqL K H a xs):gm K H (.ref a) "list"
 |tup {a:Addr} {xs:List V} (h:SqT K H a xs):gm K H (.ref a) "tuple"
 |dic {a:Addr} (h:IsD H a):gm K H (.ref a) "dict"
def iK(k T:String):Bool:=k==T || (k=="bool"&&T=="int")
def zE(K:W.Frag):List V->Hp->VK->Prop:=fun xs H Q=>∃x T k,xs=[x,.ty T]/\isiT.contains T=true/\gm K H x k/\Q (.bl (iK k T)) H
section
variable {X:Cx}
theorem jE:dP X (.builtin "isinstance") (zE X.K):=by
 intro pins s σ H xs us Q I r h;obtain ⟨x,T,k,rfl,hT,hk,q⟩:=h;obtain ⟨u,v,rfl,ru,rv⟩:=vv r
 cases rv
 have hT':T="int"\/T="bool"\/T="str"\/T="list"\/T="tuple"\/T="dict":=by simpa [isiT] using hT
 have fin:∀{b:Bool},b=iK k T->EP X pins σ Q (.bool b) s:=fun e=>zAA (.bl _) H I rfl (by rw [e];exact q)
 have finT:∀{b:Bool},b=iK k T->EP X pins σ Q (.bool b) {s with toks:=s.toks+1}:=fun e=>zAA (.bl _) H (I.tok _) rfl (by rw [e];exact q)
 cases hk with
 |non=>
  cases ru
  rcases hT' with rfl | rfl | rfl | rfl | rfl | rfl
  ·exact IsiPair.NoneType_int (finT Jkk)
  ·exact IsiPair.NoneType_bool (finT Jkk)
  ·exact IsiPair.NoneType_str (finT Jkk)
  ·exact IsiPair.NoneType_list (finT Jkk)
  ·exact IsiPair.NoneType_tuple (finT Jkk)
  ·exact IsiPair.NoneType_dict (finT Jkk)
 |bl=>
  cases ru
  rcases hT' with rfl | rfl | rfl | rfl | rfl | rfl
  ·exact IsiPair.bool_int (fin Jkk)
  ·exact IsiPair.bool_bool (fin Jkk)
  ·exact IsiPair.bool_str (finT Jkk)
  ·exact IsiPair.bool_list (finT Jkk)
  ·exact IsiPair.bool_tuple (finT Jkk)
  ·exact IsiPair.bool_dict (finT Jkk)
 |int=>
  obtain ⟨t,rfl⟩:=ru;rcases hT' with rfl | rfl | rfl | rfl | rfl | rfl
  ·exact IsiPair.int_int (fin Jkk)
  ·exact IsiPair.int_bool (finT Jkk)
  ·exact IsiPair.int_str (finT Jkk)
  ·exact IsiPair.int_list (finT Jkk)
  ·exact IsiPair.int_tuple (finT Jkk)
  ·exact IsiPair.int_dict (finT Jkk)
 |str=>
  obtain ⟨t,rfl⟩:=ru;rcases hT' with rfl | rfl | rfl | rfl | rfl | rfl
  ·exact IsiPair.str_int (finT Jkk)
  ·exact IsiPair.str_bool (finT Jkk)
  ·exact IsiPair.str_str (fin Jkk)
  ·exact IsiPair.str_list (finT Jkk)
  ·exact IsiPair.str_tuple (finT Jkk)
  ·exact IsiPair.str_dict (finT Jkk)
 |lst hl=>
  cases ru
  obtain ⟨its,_,⟨o,n,e,c,_⟩,_⟩:=I.list hl;rcases hT' with rfl | rfl | rfl | rfl | rfl | rfl
  ·exact IsiPair.list_int e c (finT Jkk)
  ·exact IsiPair.list_bool e c (finT Jkk)
  ·exact IsiPair.list_str e c (finT Jkk)
  ·exact IsiPair.list_list e c (fin Jkk)
  ·exact IsiPair.list_tuple e c (finT Jkk)
  ·exact IsiPair.list_dict e c (finT Jkk)
 |tup hl=>
  cases ru
  obtain ⟨its,_,⟨o,e,c,_⟩,_⟩:=I.tuple hl;rcases hT' with rfl | rfl | rfl | rfl | rfl | rfl
  ·exact IsiPair.tuple_int e c (finT Jkk)
  ·exact IsiPair.tuple_bool e c (finT Jkk)
  ·exact IsiPair.tuple_str e c (finT Jkk)
  ·exact IsiPair.tuple_list e c (finT Jkk)
  ·exact IsiPair.tuple_tuple e c (fin Jkk)
  ·exact IsiPair.tuple_dict e c (finT Jkk)
 |dic hl=>
  cases ru
  obtain ⟨o,e,c⟩:=(Fk I hl).1;rcases hT' with rfl | rfl | rfl | rfl | rfl | rfl
  ·exact IsiPair.dict_int e c (finT Jkk)
  ·exact IsiPair.dict_bool e c (finT Jkk)
  ·exact IsiPair.dict_str e c (finT Jkk)
  ·exact IsiPair.dict_list e c (finT Jkk)
  ·exact IsiPair.dict_tuple e c (finT Jkk)
  ·exact IsiPair.dict_dict e c (fin Jkk)
end
section
variable {H:Hp} {Q:VK} {σ:St} {D:de} {K:W.Frag}
theorem CQ{wi:TI}{g:Bk->TG}{tt:Bk->TT}{te:Bk->TE}{nt:Nat}{ci:List Nat}:kD wi g tt te nt ci σ H Q=wi σ H fun J H1=>∀acc,H1 acc=none->∀bk:Bk,cv J (g bk) (tt bk) (te bk) nt ci σ acc (fun H'=>Q (.ref acc) H') (upd H1 acc (.lst [])):=rfl
theorem x4{i:Nat}{wi:TI}{g:Bk->TG}{tt:Bk->TT}{te:Bk->TE}{nt:Nat}{ci:List Nat}:ku i wi g tt te nt ci D σ H=wi σ H fun J H1=>∀acc,H1 acc=none->∀bk:Bk,cv J (g bk) (tt bk) (te bk) nt ci σ acc (fun H'=>D.nx (σ.set i (some (.ref acc))) H') (upd H1 acc (.lst [])):=rfl
theorem Jx{Q:Bool->Hp->Prop}:jo σ H Q=Q true H:=rfl
theorem uK{x:V}{T k:String}(hk:gm K H x k)(hT:isiT.contains T=true)(hf:∀k',gm K H x k'->k'=k):zE K [x,.ty T] H Q=Q (.bl (iK k T)) H:=
 propext ⟨by rintro ⟨_,_,k',e,_,h2,q⟩;cases e;rw [hf k' h2] at q;exact q,by intro q;exact zAO x T k rfl hT hk q⟩
theorem r_isi_int_str{i:Int}:zE K [.int i,.ty "str"] H Q=Q (.bl false) H:=(uK (T:="str") .int Jkk (fun k h=>by cases h;rfl)).trans (by rw [show iK "int" "str"=false by decide +kernel])
theorem r_isi_str_str{x:Str}:zE K [.str x,.ty "str"] H Q=Q (.bl true) H:=(uK (T:="str") .str Jkk (fun k h=>by cases h;rfl)).trans (by rw [show iK "str" "str"=true by decide +kernel])
end
end L2
namespace L2
variable {p:Addr} {x:V}
section
variable {H:Hp} {Q:VK} {σ:St} {D:de} {K:W.Frag}
theorem Jv{a:Addr}{lo hi:Option Int}:IV K (.ref a) lo hi H Q=∃xs,SqT K H a xs/\¬(HT.sIx xs.length 0 lo=0/\HT.sIx xs.length xs.length hi=xs.length)/\∀p,H p=none->Q (.ref p) (upd H p (.tup (gf xs lo hi))):=propext ⟨by rintro ⟨_,xs,e1,h⟩;cases e1;exact ⟨xs,h⟩,by rintro ⟨xs,h⟩;exact zAD _ xs rfl h⟩
theorem Jh:rIn K false x (.ref p) H Q=∃xs,(SqL K H p xs\/SqT K H p xs)/\bG x=true/\xs.all bG=true/\Q (.bl (inV x xs)) H:=propext ⟨by rintro ⟨_,xs,e1,h⟩;cases e1;exact ⟨xs,h⟩,by rintro ⟨xs,h⟩;exact zAD _ xs rfl h⟩
theorem zO:rIn K true x (.ref p) H Q=∃xs,(SqL K H p xs\/SqT K H p xs)/\bG x=true/\xs.all bG=true/\Q (.bl (! inV x xs)) H:=propext ⟨by rintro ⟨_,xs,e1,h⟩;cases e1;exact ⟨xs,h⟩,by rintro ⟨xs,h⟩;exact zAD _ xs rfl h⟩
end
theorem Paired.get{α β:Type}{F:α->β->Prop}:∀{l₁:List α} {l₂:List β} {i:Nat} {a:α},Paired F l₁ l₂->l₁[i]?=some a->∃b,l₂[i]?=some b/\F a b
 |_,_,_,_,.nil,e=>by simp at e
 |_,_,0,_,.cons h _,e=>by simp at e;subst e;exact zn _ rfl h
 |_,_,i+1,a,.cons _ t,e=>by obtain ⟨b,h1,h2⟩:=Paired.get (i:=i) (a:=a) t (by simpa using e);exact zn b (by simpa using h1) h2
theorem Paired.getR{α β:Type}{F:α->β->Prop}:∀{l₁:List α} {l₂:List β} {i:Nat} {b:β},Paired F l₁ l₂->l₂[i]?=some b->∃a,l₁[i]?=some a/\F a b
 |_,_,_,_,.nil,e=>by simp at e
 |_,_,0,_,.cons h _,e=>by simp at e;subst e;exact zn _ rfl h
 |_,_,i+1,b,.cons _ t,e=>by obtain ⟨a,h1,h2⟩:=Paired.getR (i:=i) (b:=b) t (by simpa using e);exact zn a (by simpa using h1) h2
theorem Same.updM{H0 H:Hp}{o:HO}(s:Same H0 H)(h:H0 p=none):Same H0 (L2.upd H p o):=fun b u e=>by rw [ao (am e h)];exact s b u e
theorem Same.updN{H0 H:Hp}{o:HO}(s:Same H0 H)(h:H p=none):Same H0 (L2.upd H p o):=s.updM (s.free h)
theorem jU{b:Bool}{A B:Prop}(h1:b=true->A)(h2:b=false->B):if b=true then A else B:=by
 cases b
 ·rw [zq0 bw];exact h2 rfl
 ·rw [zq1 rfl];exact h1 rfl
theorem Fc{CX:CXT}{P:Program}{w:World}{K:W.Frag}{mg:Str->Option Value}{base:Heap}{N:List Str}{qual:Str}{scope:Scope}{f:Addr}{cd:Value}{A:Around}{outer:List Env}{s:Shared}{H:Hp}{E:XK}:(oG CX P w K mg base N qual scope f cd A outer s H E).K=K:=rfl
theorem HZ{X:Cx}{E:Value->Shared->Prop}:(X.wish E).K=X.K:=rfl
theorem Ii{X:Cx}{N':List Str}{scope:Scope}{b:Bk}:(X.blk N' scope b).K=X.K:=rfl
theorem Gj{o:Option V}{ci:List Nat}{σ:St}:aI [o] ci σ=none::o::ci.map fun i=>(σ[i]?).join:=rfl
theorem Gk{o o':Option V}{ci:List Nat}{σ:St}:aI [o,o'] ci σ=none::o::o'::ci.map fun i=>(σ[i]?).join:=rfl
theorem k8{n k:Nat}{P:Prop}(h:¬HT.sIx n 0 (some (k:Int))=0):¬(HT.sIx n 0 (some (k:Int))=0/\P):=fun z=>h z.1
def jT:V->Bool
 | .str _=>true
 |_=>false
theorem gT{n:Str}:∀{ns:List Str},inV (.str n) (ns.map V.str)=decide (n∈ns)
 | []=>by simp [inV]
 |m::ns=>by
  have ih:=gT (n:=n) (ns:=ns);unfold inV at ih ⊢;rw [ce,qW,ih];have e:eqV (.str m) (.str n)=decide (m=n):=by unfold eqV;rfl
  rw [e]
  by_cases h1:m=n
  ·subst h1;simp
  ·have h2:¬n=m:=fun z=>h1 z.symm;simp [h1,h2]
theorem fQ:∀{ns:List Str},(ns.map V.str).all bG=true
 | []=>rfl
 |n::ns=>by rw [ce,tD,fQ];rfl
section
variable {K:W.Frag} {tt:TT} {te:TE} {ci:List Nat} {σ:St} {acc:Addr} {Q:Hp->Prop} {H1:Hp} {a:Addr} {xs:List V}
theorem wf(p:V->Bool)(f:V->V){x:V}{ys:List V}{H:Hp}{os:List (Option V)}{i:Nat}{Pv:Nat->List V->Hp->Prop}(ho:os.length=1)(hi:xs[i]?=some x)
  (hp:∀Q',Q' (p x) H->tt (aI [some x] ci σ) H Q') (hf:∀Q',p x=true->Q' (f x) H->te (aI [some x] ci σ) H Q') (hacc:H acc=some (.lst ys)) (hlen:ys.length<sizeLine)
  (h1:p x=true->Pv (i+1) (ys++[f x]) (upd H acc (.lst (ys++[f x])))) (h2:p x=false->Pv (i+1) ys H) :
  bK 1 x (aI os ci σ) H fun σ1 H1=>(∃os',os'.length=1/\σ1=aI os' ci σ)/\tt σ1 H1 fun b H2=>if b=true then te σ1 H2 fun z H3=>H3 acc=some (.lst ys)/\ys.length<sizeLine/\Pv (i+1) (ys++[z]) (upd H3 acc (.lst (ys++[z]))) else Pv (i+1) ys H2:=by
 have e:(aI os ci σ).set 1 (some x)=aI [some x] ci σ:=by
  match os,ho with
  | [o],_=>rfl
 show (∃os',os'.length=1/\(aI os ci σ).set 1 (some x)=aI os' ci σ)/\tt ((aI os ci σ).set 1 (some x)) H _;rw [e];refine ⟨zn ([some x]) rfl rfl,hp _ ?_⟩
 cases hb:p x with
 |true=>rw [zq1 rfl];exact hf _ hb (zAB hacc hlen (h1 hb))
 |false=>rw [zq0 bw];exact h2 hb
theorem cJ{p:V->Bool}{f:V->V}{xs:List V}{i:Nat}(hi:xs[i]?=some x):((xs.take (i+1)).filter p).map f=((xs.take i).filter p).map f++(if p x=true then [f x] else []):=by
 obtain ⟨h,e⟩:=zq11.mp hi;rw [dy h,e,vF,cg];congr 1
 cases hb:p x<;>simp [hb]
theorem oS{p:V->Bool}{f:V->V}{xs:List V}{i:Nat}(hi:xs[i]?=some x)(hz:xs.length<=sizeLine):(((xs.take i).filter p).map f).length<sizeLine:=by obtain ⟨h,e⟩:=zq11.mp hi;rw [zq3];have:=qJ p (xs.take i);rw [dw] at this;omega
theorem tV{J:It}(p:V->Bool)(f:V->V)(hz:xs.length<=sizeLine)(hacc:H1 acc=none)
 (hJ:∀(Pv:Nat->List V->Hp->Prop),Pv 0 [] (upd H1 acc (.lst []))->(∀i ys H,Pv i ys H->∃ys',H=upd H1 acc (.lst ys'))->
 (∀(i:Nat)x ys H os,xs[i]?=some x->os.length=1->Pv i ys H->bK 1 x (aI os ci σ) H fun σ1 H1=>(∃os',os'.length=1/\σ1=aI os' ci σ)/\tt σ1 H1 fun b H2=>
 if b=true then te σ1 H2 fun z H3=>H3 acc=some (.lst ys)/\ys.length<sizeLine/\Pv (i+1) (ys++[z]) (upd H3 acc (.lst (ys++[z]))) else Pv (i+1) ys H2)->
 (∀ys H,Pv xs.length ys H->Q H)->cv J (bK 1) tt te 1 ci σ acc Q (upd H1 acc (.lst [])))
 (hp:∀x∈xs,∀H Q',Same H1 H->Q' (p x) H->tt (aI [some x] ci σ) H Q') (hf:∀x∈xs,∀H Q',Same H1 H->p x=true->Q' (f x) H->te (aI [some x] ci σ) H Q')
 (q:Q (upd H1 acc (.lst ((xs.filter p).map f)))):cv J (bK 1) tt te 1 ci σ acc Q (upd H1 acc (.lst [])):=by
 refine hJ (fun i ys H=>ys=((xs.take i).filter p).map f/\H=upd H1 acc (.lst ys)) ⟨Jll,rfl⟩ (fun i ys H h=>⟨ys,h.2⟩) ?_ ?_
 ·rintro i x ys H os hi ho ⟨rfl,rfl⟩;have hm:=bD hi;refine wf (xs:=xs) (Pv:=fun i ys H=>ys=((xs.take i).filter p).map f/\H=upd H1 acc (.lst ys)) p f ho hi (fun Q' h=>hp x hm _ _ (Same.upd hacc) h) (fun Q' hb h=>hf x hm _ _ (Same.upd hacc) hb h) ac (oS hi hz) (fun hb=>?_) (fun hb=>?_)
  ·rw [cJ hi,zq1 hb];exact ⟨rfl,by rw [Dh]⟩
  ·rw [cJ hi,zq0 (by rw [hb];exact bw),ix];exact ⟨rfl,rfl⟩
 ·rintro ys H ⟨rfl,rfl⟩;rw [dZ];exact q
theorem xZ(p:V->Bool)(f:V->V)(hz:xs.length<=sizeLine)(hl:SqL K H1 a xs)(hacc:H1 acc=none)
  (hp:∀x∈xs,∀H Q',Same H1 H->Q' (p x) H->tt (aI [some x] ci σ) H Q') (hf:∀x∈xs,∀H Q',Same H1 H->p x=true->Q' (f x) H->te (aI [some x] ci σ) H Q')
  (q:Q (upd H1 acc (.lst ((xs.filter p).map f)))):cv (Itl K a) (bK 1) tt te 1 ci σ acc Q (upd H1 acc (.lst [])):=
 tV p f hz hacc (fun Pv h0 hH hs hd=>d6 Pv h0 (fun i ys H _ h=>by obtain ⟨ys',rfl⟩:=hH i ys H h;exact (Same.upd hacc).seq hl) hs hd) hp hf q
theorem oy(p:V->Bool)(f:V->V)(hz:xs.length<=sizeLine)(hl:SqT K H1 a xs)(hacc:H1 acc=none)
  (hp:∀x∈xs,∀H Q',Same H1 H->Q' (p x) H->tt (aI [some x] ci σ) H Q') (hf:∀x∈xs,∀H Q',Same H1 H->p x=true->Q' (f x) H->te (aI [some x] ci σ) H Q')
  (q:Q (upd H1 acc (.lst ((xs.filter p).map f)))):cv (Itt K a) (bK 1) tt te 1 ci σ acc Q (upd H1 acc (.lst [])):=
 tV p f hz hacc (fun Pv h0 hH hs hd=>F9 Pv h0 (fun i ys H _ h=>by obtain ⟨ys',rfl⟩:=hH i ys H h;exact (Same.upd hacc).seqT hl) hs hd) hp hf q
end
end L2
end
namespace FB
open PySem L2
inductive Opd where
 |box (n:Str)
 |word (i:Int)
 deriving DecidableEq
def Opd.v:Opd->V
 | .box n=>.str n
 | .word i=>.int i
def Opd.reads:Opd->List Str
 | .box n=>[n]
 | .word _=>[]
inductive Deed where
 |tell (a:Opd)
 |copy (d:Str) (a:Opd)
 |op (f d:Str) (a b:Opd)
 deriving DecidableEq
def opsL:List Str:=["plus","less","and","or","xor","below","same"]
def Deed.vs:Deed->List V
 | .tell a=>[.str "tell",a.v]
 | .copy d a=>[.str "copy",.str d,a.v]
 | .op f d a b=>[.str f,.str d,a.v,b.v]
def Deed.fine:Deed->Prop
 | .op f _ _ _=>f∈opsL
 |_=>True
def Deed.reads:Deed->List Str
 | .tell a=>a.reads
 | .copy _ a=>a.reads
 | .op _ _ a b=>a.reads++b.reads
def Deed.writes:Deed->List Str
 | .tell _=>[]
 | .copy d _=>[d]
 | .op _ d _ _=>[d]
def Deed.tells:Deed->Bool
 | .tell _=>true
 |_=>false
def oT(one other:Deed):Option Int:=
 if one.tells=true/\other.tells=true then some 1
 else if ∃n∈one.writes,n∈other.reads\/n∈other.writes then some 1
 else if ∃n∈other.writes,n∈one.reads then some 0 else none
def nh:Option Int->V
 |none=>.non
 |some i=>.int i
end FB
section
open PySem PySem.Spec PyProof.Rows
namespace L2
section
variable {X:Cx}
theorem vo{pins:List (Addr×Obj)}{σ:St}{H:Hp}{s:Shared}(I:Inv X pins σ H s):(s.heap.objs.size==sysModules)=false:=by have:=I.big;simp only [beq_eq_false_iff_ne,ne_eq];exact fun e=>by rw [e] at this;exact absurd this (nM _)
theorem mE:dP X (.type "dict") (fun xs H Q=>∃p kvs,xs=[.ref p]/\Rd H p (.dK kvs)/\∀l,H l=none->Q (.ref l) (upd H l (.dK kvs))):=by
 intro pins s σ H xs us Q I r h;obtain ⟨p,kvs,rfl,hq,q⟩:=h;obtain ⟨u,rfl,rx⟩:=fH r
 cases rx
 obtain ⟨z,hd,vs,rel,dd⟩:=fg I.hok hq;refine kt_call_dict hd dd (by rw [<- rel.length];exact z) fun h' hm hs=>?_;have hk:∀b o,s.heap.get? b=some o->h'.get? b=some o:=fun b o e=>(hs.2 b (cF (bT e))).trans (cc _ e);exact zAA (.ref s.heap.objs.size) _ (I.laid (t':=s.toks) hk (zq5 _) (mI z (vo I) rel hm)) rfl (q _ (I.hok.fresh (zq5 _)))
def Gf:V->List V->Hp->VK->Prop:=fun x vs H Q=>∃p kvs,x=.ref p/\vs=[]/\Rd H p (.dK kvs)/\∀l,H l=none->Q (.ref l) (upd H l (.dK kvs))
def w9(ka kb:List (Key×V)):Bool:=ka.length==kb.length&&ka.all fun kv=>match bh kb kv.1 with | none=>false | some y=>eqV kv.2 y
theorem JG{kvs:List (Key×V)}{vs:List (Key×Value)}(r:KV kvs vs)(k:Key):(bh kvs k=none/\valueAt vs k=none)\/∃v u,bh kvs k=some v/\valueAt vs k=some u/\RelV v u:=by
 induction r with
 |nil=>exact .inl ⟨rfl,rfl⟩
 | @cons a b l1 l2 h t ih=>
  obtain ⟨h1,h2⟩:=h
  by_cases e:a.1=k
  ·refine .inr (zAA a.2 b.2 (bB e) ?_ h2);unfold valueAt;rw [List.find?_cons];simp [h1.symm.trans e]
  ·rw [bv e];have e':valueAt (b::l2) k=valueAt l2 k:=by unfold valueAt;rw [List.find?_cons];have:¬b.1=k:=fun z=>e (h1.trans z);simp [this]
   rw [e'];exact ih
theorem mO{A:Around}{s:Shared}{kb:List (Key×V)}{wb:List (Key×Value)}(rb:KV kb wb)(fb:kb.all (fun kv=>bG kv.2)=true):∀{ka:List (Key×V)} {wa:List (Key×Value)},KV ka wa->ka.all (fun kv=>bG kv.2)=true->
  W.KeqHits A s wb wa (ka.all fun kv=>match bh kb kv.1 with | none=>false | some y=>eqV kv.2 y)
 |_,_,.nil,_=>.nil
 |a::ka,b::wa,.cons ⟨h1,h2⟩ t,hf=>by
  rw [tD,eG] at hf;rw [tD];rcases JG rb a.1 with ⟨e1,e2⟩ | ⟨v,u,e1,e2,r⟩
  ·rw [e1];obtain ⟨k,y⟩:=b;have hk:a.1=k:=h1;subst hk;rw [AW];exact .miss e2
  ·rw [e1];obtain ⟨k,y⟩:=b;have hk:a.1=k:=h1;subst hk;refine .hit e2 ?_ (mO rb fb t hf.2);have fv:bG v=true:=by
    have hm:∃kv∈kb,kv.2=v:=by unfold bh at e1;obtain ⟨kv,hkv,e⟩:=zq42.mp e1;exact zn kv (List.mem_of_find?_eq_some hkv) e
    obtain ⟨kv,hm,rfl⟩:=hm;exact zq44.mp fb kv hm
   exact mJ h2 r hf.1 fv
theorem we{ka:List (Key×V)}(hn:(ka.map (·.1)).Nodup)(hf:ka.all (fun kv=>bG kv.2)=true):w9 ka ka=true:=by
 unfold w9;rw [beq_self_eq_true,vG,zq44];intro kv hm;have e:bh ka kv.1=some kv.2:=by
  clear hf
  induction ka with
  |nil=>cases hm
  |cons p r ih=>
   rw [ce,zq34] at hn;rcases zq12.mp hm with rfl | hm
   ·exact bB rfl
   ·rw [bv (fun z=>hn.1 (by rw [z];exact zq36.mpr (zn kv hm rfl)))];exact ih hn.2 hm
 rw [e];exact yf (zq44.mp hf kv hm)
end
end L2
namespace L2
variable {H:Hp} {sc:Scope} {σ:St}
section
variable {X:Cx} {x:Str} {p pos:Pos} {e:Expr} {es:List Expr} {t:TA} {id T:String} {r:List V->Hp->VK->Prop}
theorem qv(i:Nat){x:Str}{pos:Pos}(hv:Vis X.env.scope x)(hN:X.N[i]?=some x:=by rfl)(hd:(x==("__debug__":Str))=false:=by kernel_rfl) (hcd:(x==("__classdict__":Str))=false:=by kernel_rfl):PE X (.Name x pos) (HW i):=G1 hN hv hd hcd
theorem vl{x:Str}(h:sc.names.lookup x=some .local:=by kernel_rfl):Vis sc x:=.inl h
theorem vc{x:Str}(h:sc.names.lookup x=some .cell:=by kernel_rfl):Vis sc x:=.inr (.inl h)
theorem ll{x:Str}(h:sc.names.lookup x=some .local:=by kernel_rfl):Loc sc x:=.inl h
theorem lc{x:Str}(h:sc.names.lookup x=some .cell:=by kernel_rfl):Loc sc x:=.inr h
theorem gl{X:Cx}{x:Str}(h:X.env.scope.names.lookup x=some .globalImplicit:=by kernel_rfl):Gl X x:=h
theorem mV{x:Str}(h:(x==("__name__":Str))=false:=by kernel_rfl):x≠"__name__":=fun z=>by subst z;exact absurd h Jkk
theorem zy{k:Nat}{f:Addr}{fd:FuncData}{ps:List Str}{sp:Sp}{x:Str}{st:Stmt}{p pos:Pos}{e:Expr}{es:List Expr}{t:TA}(D:bc X.K X.mg x st ps f fd)(G:FnOk X.prog X.w X.K X.mg X.base CX0 k f fd ps sp)(hr:Room k X.A)
  (ha:PA X (e::es) t) (hg:Gl X x) (hdb:(x==("__debug__":Str))=false:=by kernel_rfl) (he:starEach (e::es) X.env=(false,eval e X.env)::starEach es X.env:=by rfl) (hpl:(backTo pos (starEach es X.env)).any (·.1)=false:=by rfl) :
  PE X (.Call (.Name x p) (e::es) [] pos) (qz sp [] E0 t):=zg D G hr ha hg hdb he hpl
def rC:Expr->Option V
 | .Constant (.int i) _ _=>some (.int i)
 | .Constant (.str x) _ _=>some (.str x)
 | .Constant (.bool b) _ _=>some (.bl b)
 | .Constant .none _ _=>some .non
 |_=>none
def js:List Expr->Option (List V)
 | []=>some []
 |e::es=>(rC e).bind fun v=>(js es).map fun vs=>v::vs
def tVs(vs:List V):TA:=fun _ H Q=>Q vs H
theorem vV{e:Expr}{v:V}(h:rC e=some v):PE X e (tC v)/\∀es,starEach (e::es) X.env=(false,eval e X.env)::starEach es X.env:=by
 unfold rC at h
 split at h
 ·cases h;exact ⟨zj,fun _=>rfl⟩
 ·cases h;exact ⟨zq,fun _=>rfl⟩
 ·cases h;exact ⟨Dz,fun _=>rfl⟩
 ·cases h;exact ⟨zm,fun _=>rfl⟩
 ·cases h
theorem pP:∀{es:List Expr} {vs:List V},js es=some vs->PA X es (tVs vs)
 | [],_,h=>by cases h;exact zd
 |e::es,vs,h=>by unfold js at h;obtain ⟨v,h1,h2⟩:=Option.bind_eq_some_iff.mp h;obtain ⟨ws,h3,h4⟩:=zq42.mp h2;subst h4;obtain ⟨p1,p2⟩:=vV (X:=X) h1;exact uD p1 (pP h3) (p2 es)
theorem K6{vs:List V}{Z:List V->Hp->Prop}:tVs vs σ H Z=Z vs H:=rfl
theorem CT{Q:VK}:Ax σ H Q=∀p,H p=none->Q (.ref p) (upd H p (.dK [])):=rfl
theorem Gs{td ty tv:TE}{D:de}:A5 td ty tv D σ H=tv σ H fun v H1=>td σ H1 fun x H2=>ty σ H2 fun y H3=>∃a H4,x=.ref a/\DPut H3 a y v H4/\D.nx σ H4:=rfl
theorem Gz{c:Addr}{Z:Addr->Hp->Prop}:(∃a H4,V.ref c=.ref a/\Z a H4)=∃H4,Z c H4:=propext ⟨by rintro ⟨_,H4,e,q⟩;cases e;exact ⟨H4,q⟩,by rintro ⟨H4,q⟩;exact zAD c H4 rfl q⟩
theorem GG{to ti:TE}{ts:xE}{v:V}{Q:St->Hp->Prop}:Fg to ti ts v σ H Q=to σ H fun o H1=>ti σ H1 fun i H2=>ts o i v H2 fun H3=>Q σ H3:=rfl
def HU(t u:TS):TS:=fun D σ H=>∃Mid:St->Hp->Prop,t {D with nx:=Mid} σ H/\∀σ' H',Mid σ' H'->u D σ' H'
theorem zL{ta tb:TS}{D:de}:HU ta tb D σ H=∃Mid:St->Hp->Prop,ta {D with nx:=Mid} σ H/\∀σ' H',Mid σ' H'->tb D σ' H':=rfl
end
end L2
namespace L2
variable {dx:Addr}
structure KlsAt(K:W.Frag)(mg:Str->Option Value)(x:Str)(C:Addr):Prop where
 cl:Cls K C
 mks:W.makesIn K C=true
 kp:W.keepIn K (.ref C)=true
 M:mg x=some (.ref C)
structure bJ(K:W.Frag)(C:Addr)(m qual:Str)(st:Stmt)(ps:List Str)(f:Addr)(fd:FuncData):Prop where
 F:Fun K m qual st f fd
 B:Binds K fd ps []
 M:vL K C m f
theorem KlsAt.make{K:W.Frag}{mg:Str->Option Value}{x qual:Str}{C f:Addr}{st:Stmt}{ps:List Str}{fd:FuncData}(c:KlsAt K mg x C)(m:bJ K C "__init__" qual st ps f fd):Mk K C f:=⟨c.mks,m.M.at_,m.M.fn,c.kp⟩
section
variable {X:Cx} {k:Nat} {f C:Addr} {fd:FuncData} {ps:List Str} {sp:Sp} {x m qual:Str} {st:Stmt} {p pos apos:Pos} {e o:Expr} {es:List Expr} {ta:TE} {t:TA}
theorem zA(c:KlsAt X.K X.mg x C)(D:bJ X.K C "__init__" qual st ps f fd) (G:FnOk X.prog X.w X.K X.mg X.base CX0 k f fd ps sp) (hr:Room (k+1) X.A)
  (ha:PA X (e::es) t) (hg:Gl X x) (hdb:(x==("__debug__":Str))=false:=by kernel_rfl) (he:starEach (e::es) X.env=(false,eval e X.env)::starEach es X.env:=by rfl) (hpl:(backTo pos (starEach es X.env)).any (·.1)=false:=by rfl) :
  PE X (.Call (.Name x p) (e::es) [] pos) (kE C sp [] E0 t):=CD (c.make D) G hr hg c.M D.B .nil pQ ha hdb he hpl
theorem zB{pl:Sem Bool}(c:Cls X.K C)(D:bJ X.K C m qual st ps f fd)(G:FnOk X.prog X.w X.K X.mg X.base CX0 k f fd ps sp)(hr:Room k X.A)(he:PE X o ta)(ha:PA X (e::es) t)
  (hst:starEach (e::es) X.env=(false,eval e X.env)::starEach es X.env:=by rfl) (hpl:(backTo pos (starEach es X.env)).any (·.1)=false:=by rfl)
  (ht:eval (.Call (.Attribute o m apos) (e::es) [] pos) X.env=(do
   let ov <- eval o X.env
   standAt apos.atName
   let (f,first) <- holding [ov] (getMethod ov m pl)
   callWith pos f first (backTo pos (starEach (e::es) X.env)) (backToKw pos (keywordEach [] X.env))):=by rfl) :
  PE X (.Call (.Attribute o m apos) (e::es) [] pos) (ii C m sp [] E0 ta t):=uE he c D.M G hr D.B .nil pQ ha hst hpl ht
theorem wX{pl:Sem Bool}(c:Cls X.K C)(D:bJ X.K C m qual st ps f fd)(G:FnOk X.prog X.w X.K X.mg X.base CX0 k f fd ps sp)(hr:Room k X.A)(he:PE X o ta)
  (ht:eval (.Call (.Attribute o m apos) [] [] pos) X.env=(do
   let ov <- eval o X.env
   standAt apos.atName
   let (f,first) <- holding [ov] (getMethod ov m pl)
   callWith pos f first (backTo pos (starEach [] X.env)) (backToKw pos (keywordEach [] X.env))):=by rfl) :
  PE X (.Call (.Attribute o m apos) [] [] pos) (ii C m sp [] E0 ta qB):=zl he c D.M G hr D.B .nil pQ ht
end
section
variable {H:Hp} {Q:VK} {σ:St} {D:de} {K:W.Frag}
def xD(K:W.Frag)(x:V)(f:Str)(y:V)(H:Hp)(Z:Hp->Prop):Prop:=∃a C dx fs,x=.ref a/\H a=some (.ins C dx fs)/\Cls K C/\NoAttr K C f/\fs.length<1000/\Z (upd H a (.ins C dx (cU f y fs)))
def jB(K:W.Frag)(x:V)(f:Str)(H:Hp)(Q:VK):Prop:=∃a C dx fs v,x=.ref a/\H a=some (.ins C dx fs)/\Cls K C/\NoAttr K C f/\fs.lookup f=some v/\Q v H
def mz(C:Addr)(m:Str)(x:V)(H:Hp)(Z:Prop):Prop:=∃a dx fs,x=.ref a/\H a=some (.ins C dx fs)/\fs.lookup m=none/\Z
def Ie(C:Addr)(sp:Sp)(vs:List V)(H:Hp)(Q:VK)(E:XK):Prop:=∀x dx,H x=none->H dx=none->dx≠x->sp (.ref x::vs) (upd (upd H dx (.own x)) x (.ins C dx [])) (fun v H2=>v=.non/\Q (.ref x) H2) E
theorem Hl{ta tv:TE}{f:Str}:Jy K ta tv f D σ H=tv σ H fun y H1=>ta σ H1 fun x H2=>xD K x f y H2 (D.nx σ):=rfl
theorem GI{ta:TE}{f:Str}:JB K ta f σ H Q=ta σ H fun x H1=>jB K x f H1 Q:=rfl
theorem Hg{C:Addr}{m:Str}{sp:Sp}{E:XK}{ta:TE}{t:TA}:ii C m sp [] E ta t σ H Q=ta σ H fun x H1=>mz C m x H1 (t σ H1 fun vs H2=>sp (x::vs) H2 Q E):=by unfold ii mz;simp only [List.append_nil]
theorem He{C:Addr}{sp:Sp}{E:XK}{t:TA}:kE C sp [] E t σ H Q=t σ H fun vs H1=>Ie C sp vs H1 Q E:=by unfold kE Ie;simp only [List.append_nil]
theorem gD{p C:Addr}{fs:List (Str×V)}{f:Str}{y:V}{Z:Hp->Prop}(e:H p=some (.ins C dx fs))(c:Cls K C)(n:NoAttr K C f)(l:fs.length<1000)(h:Z (upd H p (.ins C dx (cU f y fs)))):xD K (.ref p) f y H Z:=zAT p C dx fs rfl e c n l h
theorem df{p C:Addr}{fs:List (Str×V)}{f:Str}{v:V}(e:H p=some (.ins C dx fs))(c:Cls K C)(n:NoAttr K C f)(l:fs.lookup f=some v)(h:Q v H):jB K (.ref p) f H Q:=zAZ p C dx fs v rfl e c n l h
theorem bP{p C:Addr}{fs:List (Str×V)}{m:Str}{Z:Prop}(e:H p=some (.ins C dx fs))(l:fs.lookup m=none)(h:Z):mz C m (.ref p) H Z:=zAO p dx fs rfl e l h
end
end L2
namespace L2
section
variable {K:W.Frag} {h:Heap} {mg:Str->Option Value}
abbrev fnS (x qual:Str) (st:Stmt) (kV doc pm:Value) (an:Option Addr) (cdv ct:Value):FuncData:=W.fnOf x qual (dB st) (d7 st) (ax st) .none kV doc pm an cdv ct
abbrev rh (x qual:Str) (st:Stmt) (ps:List Str):Prop:=∀(kV doc pm:Value)(an:Option Addr)(cdv ct:Value)(us:List Value),us.length=ps.length->bindArgs (fnS x qual st kV doc pm an cdv ct) ⟨us,[]⟩=pure (ps.zip us)
theorem ck{x:Str}{st:Stmt}{ps:List Str}{f:Addr}{oc:Value}{od an:Option Addr}{osl:Array (Option Value)}{kV doc pm cdv ct:Value}(X:K.In h)(G:h.Ns mainGlobals mg)(a:W.nsIn K mainGlobals x=some (some (.ref f)))
  (l:K.lookup f=some ⟨oc,od,.func (W.fnOf x x (dB st) (d7 st) (ax st) .none kV doc pm an cdv ct),osl⟩) (c:W.codeIn K cdv x=true) (k:W.keepIn K (.ref f)=true) (b:rh x x st ps):bc K mg x st ps f (W.fnOf x x (dB st) (d7 st) (ax st) .none kV doc pm an cdv ct):=
 ⟨mL l c k,(mL l c k).binds b,W.mg_of X G a⟩
theorem gh{C:Addr}{x qual:Str}{st:Stmt}{ps:List Str}{f:Addr}{oc:Value}{od an:Option Addr}{osl:Array (Option Value)}{kV doc pm cdv ct:Value}(a:W.findIn K (.ref C) x=some (some (.ref f)))(i:W.isFn K (.ref f)=true)
  (l:K.lookup f=some ⟨oc,od,.func (W.fnOf x qual (dB st) (d7 st) (ax st) .none kV doc pm an cdv ct),osl⟩) (c:W.codeIn K cdv qual=true) (k:W.keepIn K (.ref f)=true) (b:rh x qual st ps):bJ K C x qual st ps f (W.fnOf x qual (dB st) (d7 st) (ax st) .none kV doc pm an cdv ct):=
 ⟨mL l c k,(mL l c k).binds b,⟨a,i,k⟩⟩
theorem BR{x:Str}{C:Addr}(X:K.In h)(G:h.Ns mainGlobals mg)(a:W.nsIn K mainGlobals x=some (some (.ref C)))(h1:W.plainGet K C Str.empty=true)(h2:W.hasDictIn K C=true)(h3:W.plainOver K C=true)
  (h4:W.findIn K (.ref C) "__setattr__"=some (some (.builtin "object.__setattr__"))) (h5:W.makesIn K C=true) (h6:W.keepIn K (.ref C)=true):KlsAt K mg x C:=⟨⟨h1,h2,h3,h4⟩,h5,h6,W.mg_of X G a⟩
end
section
variable {x qual p q r s t u:Str} {st:Stmt}
theorem bn1(h:∀kV doc pm an cdv ct a,bindArgs (fnS x qual st kV doc pm an cdv ct) ⟨[a],[]⟩=pure [(p,a)]):rh x qual st [p]:=fun kV doc pm an cdv ct us hl=>by
 match us,hl with
 | [a],_=>exact h kV doc pm an cdv ct a
theorem bn2(h:∀kV doc pm an cdv ct a b,bindArgs (fnS x qual st kV doc pm an cdv ct) ⟨[a,b],[]⟩=pure [(p,a),(q,b)]):rh x qual st [p,q]:=fun kV doc pm an cdv ct us hl=>by
 match us,hl with
 | [a,b],_=>exact h kV doc pm an cdv ct a b
theorem bn3(h:∀kV doc pm an cdv ct a b c,bindArgs (fnS x qual st kV doc pm an cdv ct) ⟨[a,b,c],[]⟩=pure [(p,a),(q,b),(r,c)]):rh x qual st [p,q,r]:=fun kV doc pm an cdv ct us hl=>by
 match us,hl with
 | [a,b,c],_=>exact h kV doc pm an cdv ct a b c
theorem bn4(h:∀kV doc pm an cdv ct a b c d,bindArgs (fnS x qual st kV doc pm an cdv ct) ⟨[a,b,c,d],[]⟩=pure [(p,a),(q,b),(r,c),(s,d)]):rh x qual st [p,q,r,s]:=fun kV doc pm an cdv ct us hl=>by
 match us,hl with
 | [a,b,c,d],_=>exact h kV doc pm an cdv ct a b c d
theorem bn5(h:∀kV doc pm an cdv ct a b c d e,bindArgs (fnS x qual st kV doc pm an cdv ct) ⟨[a,b,c,d,e],[]⟩=pure [(p,a),(q,b),(r,c),(s,d),(t,e)]):rh x qual st [p,q,r,s,t]:=fun kV doc pm an cdv ct us hl=>by
 match us,hl with
 | [a,b,c,d,e],_=>exact h kV doc pm an cdv ct a b c d e
end
end L2
namespace L2
section
variable {X:Cx}
end
end L2
namespace L2
theorem um:∀{ns:List Int} {its:List Value},Vals (ns.map V.int) its->IntsAre its ns
 | [],_,.nil=>.nil
 |n::ns,_,.cons h t=>by obtain ⟨tk,rfl⟩:=h;exact .cons _ _ (um t)
section
variable {X:Cx}
def uL(K:W.Frag):List V->Hp->VK->Prop:=fun xs H Q=>∃(a:Addr)(ns:List Int),xs=[.ref a]/\SqL K H a (ns.map V.int)/\ns.length<64/\∀(l:Addr)(ns':List Int),H l=none->ns'.Perm ns->ns'.Pairwise (·<=·)->Q (.ref l) (upd H l (.lst (ns'.map V.int)))
theorem ow:dP X (.builtin "sorted") (uL X.K):=by
 intro pins s σ H xs us Q I r h;obtain ⟨a,ns,rfl,hq,h64,q⟩:=h;obtain ⟨u,rfl,ru⟩:=fH r
 cases ru
 obtain ⟨its,rv,pl,_⟩:=I.list hq;have hl:=rv.length;rw [zq3] at hl;refine sorted_ints (vs:=its) pl.isList (um rv) Jlk fun out ns' a1 a2 a3=>?_;obtain ⟨e,he⟩:=sortedAll_at s.heap its out;have hk:∀b o,s.heap.get? b=some o->(sortedAll s.heap its out).get? b=some o:=fun _ _=>sortedAll_old;refine zAA (.ref (s.heap.objs.size+1)) _ (I.laid (t':=s.toks) hk (Bu _) (show ObjOk X.prog X.w _ (sortedAll s.heap its out) _ (.lst (ns'.map V.int)) from ⟨?_,zAD out.toList e (iQ a1) ?_⟩)) rfl (q _ _ (I.hok.fresh (Bu _)) a2 a3)
 ·rw [zq3,a2.length_eq,zq8];omega
 ·rw [Array.toArray_toList];exact he
theorem oq:∀{bs:List Bool} {its:List Value},Vals (bs.map V.bl) its->its=bs.map Value.bool
 | [],_,.nil=>rfl
 |b::bs,_,.cons h t=>by have e:_=Value.bool b:=h;rw [e,oq t];rfl
theorem x6{bs:List Bool}:(List.range bs.length).any (fun i=>bs.getD i true)=bs.any id:=by
 rw [iX,zq100,zq100]
 constructor
 ·rintro ⟨i,hi,h⟩;have hi:=zq40.mp hi;rw [cw,zq6 hi] at h;exact zn _ (iz hi) h
 ·rintro ⟨b,hb,h⟩;obtain ⟨i,hi,rfl⟩:=List.mem_iff_getElem.mp hb;refine zn i (zq40.mpr hi) ?_;rw [cw,zq6 hi];exact h
def IM(K:W.Frag):List V->Hp->VK->Prop:=fun xs H Q=>∃(a:Addr)(bs:List Bool),xs=[.ref a]/\SqL K H a (bs.map V.bl)/\Q (.bl (bs.any id)) H
theorem qD{P:Program}{w:World}{A:Around}{bs:List Bool}:TruthOf P w A (fun i v=>(bs.map Value.bool).toArray[i]?=some v) (fun i=>bs.getD i true):=by intro i v s Q E hv q;rw [List.getElem?_toArray,bE] at hv;obtain ⟨b,hb,rfl⟩:=zq42.mp hv;replace q:Q (bs.getD i true) s:=q;rw [cw,hb] at q;exact wpAny_truthy_bool q
theorem ot(hc:X.calm=true):dP X (.builtin "any") (IM X.K):=by
 intro pins s σ H xs us Q I r h;obtain ⟨a,bs,rfl,hq,q⟩:=h;obtain ⟨u,rfl,ru⟩:=fH r
 cases ru
 obtain ⟨its,rv,pl,_⟩:=I.list hq;obtain rfl:=oq rv;obtain ⟨o,ho,ro⟩:=pl.isList;have W:=Walks.list (prog:=X.prog) (w:=X.w) (A:=X.A.in1) (I.ok.hd hc) s.heap.objs.size a (cF (bT ho)) (bs.map Value.bool).toArray;refine call_any_walk (wpAny_pyIter_list pl.isList (zBL s.heap.objs.size _ _ _ _ _ (fun i=>bs.getD i true) (zAI rfl W ⟨zAC _ (du _ rfl) rfl rfl,pl.isList.push _⟩ qD fun h' tk hk=>?_)));have e:(bs.map Value.bool).toArray.size=bs.length:=by simp
 rw [e,x6];exact zAA (.bl _) H (I.kept (t':=tk) fun b ob hb=>hk b ob (fun z=>nM _ (by have:=bT hb;rw [zq10.mp z] at this;exact this)) (cc _ hb)) rfl q
end
end L2
namespace L2
open AutoSeq1 (wpAny_loadPart')
theorem uW:mroOf (.type "reversed")=pure [.type "reversed",.type "object"]:=by rw [mroOf_type];kernel_rfl
theorem D8:typeLookup (.type "reversed") "__new__"=pure (some (.builtin "reversed.__new__")):=by rw [typeLookup_type,builtinLookup_eq_fast];kernel_rfl
theorem A1:Bind.madeBy (.type "reversed")=pure (some "reversed.__new__"):=madeBy_type uW D8 Jkk
theorem D9:isSubtype (.type "list_reverseiterator") (.type "reversed")=pure false:=by rw [isSubtype_type];kernel_rfl
theorem A2:isSubtype (.type "reversed") (.type "reversed")=pure true:=by rw [isSubtype_type];kernel_rfl
theorem x9:entryFor table "reversed.__new__"=some Builtin.«reversed.__new__»:=entryFor_of_tree Jkl
theorem gF(l:Addr)(items:Array Value)(n:Nat)(dct:Option Addr)(sl:Array (Option Value)):
  Meets (Builtin.«reversed.__new__» ⟨[.type "reversed",.ref l],[]⟩) (fun _ R s=>s.heap.get? l=some {cls:=.type "list",dict:=dct,data:=.seq items n,slots:=sl}/\
   R (.ok (.ret (.ref s.heap.objs.size))) {s with heap:=s.heap.push {cls:=.type "list_reverseiterator",data:=.fields #[.ref l,rawInt (((items.size:Nat):Int)-1)]}}):=
 .of_wp fun prog w A R s h=>by
  obtain ⟨hp,g,d,tk,os⟩:=s;obtain ⟨hl,h⟩:=h;have hsub:=A2;have hL:Heap.IsList (Shared.heap ⟨hp,g,d,tk,os⟩) l items:=zAC _ hl rfl ⟨n,rfl⟩
  wp_walk using wpAny_loadPart' hl
  refine wpAny_of_eq PySem.F.slot_list_reversed.lookup ?_;refine zq2 ?_;unfold bindSpecial;refine zq2 (wpAny_of_eq PySem.F.type_list_reversed ?_);rw [zq1 Jkm];refine zq4 ?_;show wpAny _ _ (if (Value.builtin "list.__reversed__"==Value.none)=true then _ else _) _ _ _;rw [zq0 Jkm];refine zq2 (wpAny_rule ?_);refine zq2 ?_;show wpAny (model prog w) A.in1 (call (.builtin "list.__reversed__") [.ref l]) _ _ _;refine wpAny_call_entry PySem.F.slot_list_reversed hL.typeIs PySem.F.entry_list_reversed ?_ (PySem.F.args_list_reversed_1 _)
  wp_walk using wpAny_loadPart' hl
  exact zn _ rfl (zq4 (zn _ rfl h))
def IsRev(h:Heap)(it l:Addr)(k:Int):Prop:=∃o,h.get? it=some o/\o.cls=.type "list_reverseiterator"/\o.data=.fields #[.ref l,.int k 0]
section
variable {prog:Program} {w:World} {A:Around} {E:Value->Shared->Prop} {s:Shared}
theorem gB{l:Addr}{items:Array Value}{Q:Value->Shared->Prop}(hL:s.heap.IsList l items)
  (h:∀h',IsRev h' s.heap.objs.size l (((items.size:Nat):Int)-1)->h'.objs.size=s.heap.objs.size+1->(∀b o,s.heap.get? b=some o->h'.get? b=some o)->Q (.ref s.heap.objs.size) {s with heap:=h'}) :
  wpAny (model prog w) A (call (.type "reversed") [.ref l]) Q E s:=by
 obtain ⟨⟨c,dct,dt,sl⟩,hl,hc,n,hd⟩:=hL;replace hc:c=.type "list":=hc;replace hd:dt=.seq items n:=hd;subst hc hd;have hmro:=uW;have hmade:=A1;have hsub:=D9;refine wpAny_call (codeAny_of_tree ?_);show wpAny _ _ (callAny (.type "reversed") _) _ _ _;refine zq4 ⟨Code.quiet_builtin _ Jkk,B3 F.entry_type_call ?_⟩;rw [Around.under_plain (weight_type_call_type "reversed" [.ref l] []) (units_type_call_type "reversed" [.ref l] [])];have h1:(Value.type "reversed"==Value.type "type")=false:=by decide +kernel
 have h2:((Manifest.find? "reversed").bind (·.mro.findSome? fun t=>(Manifest.find? t).bind fun b=>if b.noNew then some true else if b.attrs.any (·.1=="__new__") then some false else none)).getD false=false:=by decide +kernel
 have hct:checkTypeCall "reversed" ⟨[.ref l],[]⟩=pure ():=by kernel_rfl
 have hcn:checkBuiltinCall "reversed.__new__" ⟨[.type "reversed",.ref l],[]⟩=pure ():=by kernel_rfl
 repeat (any_goals (first | assumption | wp_step))
 have key:=gF l items n dct sl prog w A.in1 (wants (fun v s'=>v=.ref s.heap.objs.size/\s'={s with heap:=s.heap.push {cls:=.type "list_reverseiterator",data:=.fields #[.ref l,rawInt (((items.size:Nat):Int)-1)]}}) E) s (zAB hl rfl rfl);refine codeAny_mono (codeAny_call_builtin Jkk x9 (wpAny_of_eq hcn key)) fun r s₁ hr=>?_
 cases r with
 |error e=>exact hr
 |ok fl=>
  cases fl with
  |ret obj=>
   obtain ⟨rfl,rfl⟩:=hr;have hT:Shared.TypeIs {s with heap:=s.heap.push {cls:=.type "list_reverseiterator",data:=.fields #[.ref l,rawInt (((items.size:Nat):Int)-1)]}} (.ref s.heap.objs.size) "list_reverseiterator":=zn _ (du _ rfl) rfl
   repeat (any_goals (first | assumption | wp_step))
   exact h _ (zAC _ (du _ rfl) rfl rfl) (kU ..) (fun b o x=>cc _ x)
  |_=>exact hr.elim
end
end L2
namespace L2
variable {it l:Addr}
theorem slot_rev_next:Slot "list_reverseiterator" "__next__" "list_reverseiterator.__next__":=
 .of (owner:="list_reverseiterator") (n:="__next__") (by rw [typeLookup_type,builtinLookup_eq_fast];kernel_rfl) Jkk Jkk Jkk
  (by first | exact .inl Jkk | exact .inr Jkk) (by rw [isSubtype_type];kernel_rfl)
theorem gz:Slot "list_reverseiterator" "__iter__" "list_reverseiterator.__iter__":=
 .of (owner:="list_reverseiterator") (n:="__iter__") (by rw [typeLookup_type,builtinLookup_eq_fast];kernel_rfl) Jkk Jkk Jkk
  (by first | exact .inl Jkk | exact .inr Jkk) (by rw [isSubtype_type];kernel_rfl)
theorem fu:entryFor table "list_reverseiterator.__next__"=some Builtin.«list_reverseiterator.__next__»:=entryFor_of_tree Jkl
theorem jL:entryFor table "list_reverseiterator.__iter__"=some Builtin.«dict_keyiterator.__iter__»:=
 entryFor_alias (id':="dict_keyiterator.__iter__") Jkl (by first | rfl | decide +kernel | (unfold String.splitOn;simp +decide [String.splitOnAux])) Jkk Jkl
theorem gn(a:Value):argsOk "list_reverseiterator.__next__" ⟨[a],[]⟩:=by unfold argsOk;kernel_rfl
theorem kN(a:Value):argsOk "list_reverseiterator.__iter__" ⟨[a],[]⟩:=by unfold argsOk;kernel_rfl
theorem IsRev.typeIs{s:Shared}{k:Int}(x:IsRev s.heap it l k):s.TypeIs (.ref it) "list_reverseiterator":=let ⟨o,ho,hc,_⟩:=x;(zn o ho hc)
section
variable {prog:Program} {w:World} {A:Around} {E:Value->Shared->Prop} {s:Shared}
theorem kg{k:Int}{Q:Value->Shared->Prop}(hi:IsRev s.heap it l k)(h:Q (.ref it) s):wpAny (model prog w) A (pyIter (.ref it)) Q E s:=by refine wpAny_pyIter_slot hi.typeIs gz (wpAny_call_entry gz hi.typeIs jL ?_ (kN _));show wpAny _ _ (ret (.ref it)) _ _ s;exact zq4 (zn _ rfl (zAA ("list_reverseiterator") _ hi.typeIs slot_rev_next.lookup h))
theorem jn{i:Nat}{items:Array Value}{x:Value}{Q:Option Value->Shared->Prop}(hit:IsRev s.heap it l (i:Int))(hl:s.heap.IsList l items)(hx:items[i]?=some x)
 (hQ:∀h',IsRev h' it l ((i:Int)-1)->Heap.SameBut it s.heap h'->Q (some x) {s with heap:=h'}):wpAny (model prog w) A (pyNext (.ref it)) Q E s:=by
 obtain ⟨o,ho,hc,hd⟩:=id hit;obtain ⟨ol,hol,_,nl,hdl⟩:=hl;unfold pyNext;refine zq2 (wpAny_attempt (wpAny_callSpecial?_slot (name:=Str.ofString "__next__") hit.typeIs slot_rev_next (wpAny_call_entry slot_rev_next hit.typeIs fu ?_ (gn _))));show wpAny _ _ (field (.ref it) 1 >>= _) _ _ s;refine zq2 (wpAny_field ho hd (x:=.int i 0) rfl ?_);show wpAny _ _ (if (i:Int)<0 then _ else _) _ _ s;rw [zq0 Jlk];show wpAny _ _ (field (.ref it) 0 >>= _) _ _ s;refine zq2 (wpAny_field ho hd (x:=.ref l) rfl ?_);show wpAny _ _ (seqItems? (.ref l) >>= _) _ _ s;refine zq2 (wpAny_seqItems hol hdl ?_);simp only [Int.toNat_natCast,hx];refine zq2 (wpAny_setField ho hd Jll (zq4 (zn x rfl (zq4 (hQ _ ?_ (Heap.SameBut.update ..))))));exact zAC _ (AY _ ho (Obj.isFreed_of_fields (Obj.data_mapFields hd _))) ((Obj.cls_mapFields ..).trans hc) (by rw [Obj.data_mapFields hd];simp [rawInt])
theorem kh{Q:Option Value->Shared->Prop}(hh:A.handled=none)(hit:IsRev s.heap it l (-1))
 (hQ:∀h',Heap.ExtBut it s.heap h'->Q none {s with heap:=h'}):wpAny (model prog w) A (pyNext (.ref it)) Q E s:=by
 obtain ⟨o,ho,hc,hd⟩:=id hit;unfold pyNext;refine zq2 (wpAny_attempt (wpAny_callSpecial?_slot (name:=Str.ofString "__next__") hit.typeIs slot_rev_next (wpAny_call_entry slot_rev_next hit.typeIs fu ?_ (gn _))));show wpAny _ _ (field (.ref it) 1 >>= _) _ _ s;refine zq2 (wpAny_field ho hd (x:=.int (-1) 0) rfl ?_);show wpAny _ _ (if (-1:Int)<0 then _ else _) _ _ s;rw [zq1 Jkm];refine zq2 (wpAny_rule ?_);refine zq2 ?_;show wpAny _ _ (newExc (.type "StopIteration") [] >>= _) _ _ _;refine zq2 ?_;simp only [newExc,newTuple];refine zq2 (wpAny_newObj_type ?_ (by size_fits));refine zq2 (m:=firstArgMember _ _) (wpAny_of_eq (a:=Value.none) (by first | rfl | (simp only [firstArgMember];rfl)) ?_);refine wpAny_newObj_type ?_ (by size_fits);simp only [raiseNew];refine zq2 (wpAny_handled ?_);rw [show A.in1.handled=none from hh];refine zq2 (zq4 (wpAny_throw ?_));refine zq2 (wpAny_isInstance (T:="StopIteration") (b:=true) ⟨_,du _ rfl,rfl⟩ isSubtype_stop ?_);exact zq4 (hQ _ (fun b o _ e=>cc _ (cc _ e)))
end
end L2
namespace L2
def Itv(K:W.Frag)(a:Addr)(n:Nat):It:=
 ⟨fun i H=>∃xs,SqL K H a xs/\xs.length=n/\i<n,fun i H x H'=>H'=H/\∀xs,SqL K H a xs->xs.reverse[i]?=some x,fun i _=>n<=i⟩
theorem Hn{α:Type}{xs:List α}{i:Nat}(h:i<xs.length):xs.reverse[i]?=xs[xs.length-1-i]?:=by rw [ER h]
theorem IsRev.keep{h h':Heap}{it l:Addr}{k:Int}(x:IsRev h it l k)(hk:∀o,h.get? it=some o->h'.get? it=some o):IsRev h' it l k:=let ⟨o,ho,r⟩:=x;(zn o (hk o ho) r)
theorem AH{P:Program}{w:World}{K:W.Frag}{tg:Expr}(a it:Addr)(n:Nat):kM P w K tg (Itv K a n) [it] it (fun i h=>i<=n/\IsRev h it a ((n:Int)-1-(i:Nat))) where
 mem:=by simp
 obj:=fun i h st b hb=>by
  have e:b=it:=by simpa using hb
  subst e;obtain ⟨_,o,e,c,d⟩:=st;exact zn o e (fun v z=>by rw [d] at z;cases z)
 keep:=fun i h h' st k=>⟨st.1,st.2.keep fun o e=>k it Jll o e⟩
 item:=by
  intro X hP hw hK hc i pins s σ H E I hf st hg;subst hP hw hK;obtain ⟨xs,hq,hn,hi⟩:=hg;subst hn;obtain ⟨x,hx⟩:∃x,xs[xs.length-1-i]?=some x:=⟨_,zq6 Jlk⟩
  obtain ⟨its,rv,p,hz⟩:=I.list hq;obtain ⟨u,hu,ru⟩:=rv.get hx;obtain ⟨f0,f1,f2,f3,f4,f5⟩:=hf it Jll;have st0:IsRev s.heap it a ((xs.length-1-i:Nat):Int):=by have:=st.2;rw [show ((xs.length:Int)-1-(i:Nat))=((xs.length-1-i:Nat):Int) by omega] at this;exact this
  refine jn st0 p.isList (x:=u) (by simpa using hu) fun h' st' sb=>?_;have I1:Inv X pins σ H {s with heap:=h'}:=I.turned (t':=s.toks) (fun b o hb e=>(sb.2 b hb).trans e) f0 f1 f3 f4 f5;obtain ⟨o,e,c,d⟩:=id st';have st2:IsRev h' it a ((xs.length:Int)-1-((i+1:Nat):Int)):=by rw [show ((xs.length:Int)-1-((i+1:Nat):Int))=((xs.length-1-i:Nat):Int)-1 by omega];exact st'
  exact zn u rfl (ug (s:={s with heap:=h'}) e c d Jkm (zAR x H I1 ru ⟨rfl,fun ys hy=>by rw [I.list_inj hy hq,Hn hi];exact hx⟩ ⟨hi,st2⟩ fun b hb=>(hf b hb).1))
 done:=by
  intro X hP hw hK hc i pins s σ H E I hf st hg;subst hP hw hK;obtain ⟨f0,f1,f2,f3,f4,f5⟩:=hf it Jll;have hg':n<=i:=hg;have e:i=n:=Nat.le_antisymm st.1 hg';have st0:IsRev s.heap it a (-1):=by have:=st.2;rw [show ((n:Int)-1-(i:Nat))=-1 by omega] at this;exact this
  exact kh (I.ok.hd hc) st0 fun h' eb=>⟨rfl,I.turned (t':=s.toks) (fun b o hb e=>eb b o hb e) f0 f1 f3 f4 f5⟩
 self:=fun _ _ _ _ _ st h=>kg st.2 h
def Fi(K:W.Frag)(ta:TA):TI:=fun σ H R=>ta σ H fun vs H1=>∃a xs,vs=[.ref a]/\SqL K H1 a xs/\R (Itv K a xs.length) H1
theorem G7{X:Cx}{tg a:Expr}{ta:TA}{p pos:Pos}(hm:X.mg "reversed"=none) (ha:PA X [a] ta) (hg:Gl X "reversed":=by rfl) (hs:starEach [a] X.env=[(false,eval a X.env)]:=by rfl) :
  PI X tg (.Call (.Name "reversed" p) [a] [] pos) (Fi X.K ta):=by
 intro pins s σ H R I h;refine Call_ (eX I hg hm boot_reversed (PyProof.Rows.callWith_type1 (thn (ha pos pins s σ H _ I h) fun us s1 hhx=>?_) hs rfl));obtain ⟨vs,H1,I1,r1,q1⟩:=hhx;obtain ⟨l,xs,e,hq,q⟩:=q1;subst e
 cases r1 with
 |cons r rr=>
  cases rr
  cases r
  obtain ⟨its,rv,pl,hz⟩:=I1.list hq;have hlen:=rv.length;refine gB pl.isList fun h' hit hsz hk=>?_;refine kg hit ?_;have I2:Inv X pins σ H1 {s1 with heap:=h'}:=I1.kept (t':=s1.toks) hk;refine zAZ s1.heap.objs.size ([s1.heap.objs.size]) _ _ H1 rfl I2 (AH l _ xs.length) ⟨cq _,?_⟩ (fun b hb=>?_) q
  ·have e:(((its.toArray.size:Nat):Int)-1)=((xs.length:Int)-1-((0:Nat):Int)):=by simp [hlen]
   rw [e] at hit;exact hit
  ·rw [zq10.mp hb];exact I1.fpOk (zq5 _) (I1.hok.fresh (zq5 _))
section
variable {g:TG} {tb:TS} {D:de} {σ:St} {H:Hp}
theorem GJ{K:W.Frag}{ta:TA}{R:It->Hp->Prop}:Fi K ta σ H R=ta σ H fun vs H1=>∃a xs,vs=[.ref a]/\SqL K H1 a xs/\R (Itv K a xs.length) H1:=rfl
theorem Ff{K:W.Frag}{a:Addr}{xs:List V}(Pv:Nat->St->Hp->Prop)(h0:Pv 0 σ H)(hl:∀i σ H,i<=xs.length->Pv i σ H->SqL K H a xs)
  (hs:∀(i:Nat)x σ H,xs.reverse[i]?=some x->Pv i σ H->g x σ H fun σ2 H2=>tb {D with nx:=Pv (i+1),ct:=Pv (i+1),bk:=D.nx} σ2 H2) (hd:∀σ H,Pv xs.length σ H->D.nx σ H):nU (Itv K a xs.length) g tb D σ H:=by
 refine zn (fun i m σ H=>m=xs.length-i/\i<=xs.length/\Pv i σ H) (zAC xs.length Jll (cq _) h0) ?_;rintro i m σ H ⟨rfl,hi,p⟩;have q:=hl i σ H hi p
 by_cases hlt:i<xs.length
 ·refine .inr ⟨zAC xs q rfl hlt,zn (Pv (i+1)) (fun σ' H' p'=>zAG (xs.length-(i+1)) Jlk rfl hlt p') fun x H' y=>?_⟩;obtain ⟨eH,y⟩:=y;subst eH;exact hs i x σ H' (y xs q) p
 ·have e:i=xs.length:=by omega
  subst e;exact .inl ⟨zq5 _,hd σ H p⟩
end
end L2
namespace L2
section
variable {prog:Program} {w:World} {A:Around} {E:Value->Shared->Prop} {s:Shared}
end
end L2
namespace L2
section
variable {X:Cx}
theorem jX:MtM X "dict.copy" Gf:=by
 intro pins s σ H x vs v us Q I rx rv h;obtain ⟨l,kvs,rfl,rfl,hH,q⟩:=h
 cases rx
 have hus:=rv.zero;subst hus;obtain ⟨z,hd,ws,rel,dd⟩:=fg I.hok hH;refine call_meetsIn PySem.F.slot_dict_copy dd.typeIs PySem.F.entry_dict_copy (PySem.F.args_dict_copy_1 _) (meets_dict_copy (bi X.prog X.w) l hd) (zAC ws dd (by rw [<- rel.length];exact z) fun h' dn _ hk=>?_);exact zAA (.ref s.heap.objs.size) _ (I.laid (t':=s.toks) hk (zq5 _) (mI z (vo I) rel dn)) rfl (q _ (I.hok.fresh (zq5 _)))
end
end L2
namespace L2
def CO:R2:=fun x y H Q=>∃a b ka kb,x=.ref a/\y=.ref b/\Rd H a (.dK ka)/\Rd H b (.dK kb)/\ka.all (fun kv=>bG kv.2)=true/\kb.all (fun kv=>bG kv.2)=true/\Q (.bl (! w9 ka kb)) H
theorem wO{X:Cx}(hu:X.A.units<cLine):OpR X (compareOp .NotEq) CO:=by
 intro pins s σ H x y v u Q I rx ry h;obtain ⟨a,b,ka,kb,rfl,rfl,ha,hb,fa,fb,q⟩:=h
 cases rx;cases ry
 obtain ⟨za,hda,va,ra,da⟩:=fg I.hok ha;obtain ⟨zb,hdb,vb,rb,db⟩:=fg I.hok hb;refine W.keq_ne hda hdb da db hu (fun _=>mO rb fb ra fa) ?_;rw [<- ra.length,<- rb.length];exact zAA (.bl _) H I rfl q
end L2
namespace L2
variable {X:Cx} {a b c e i iter o:Expr} {apos p pos':Pos} {es:List Expr} {f:Addr} {ps:List Str} {qual x:Str} {sp:Sp} {tA:TT} {ta te:TE} {wi:TI}
structure XE(X:Cx)(e:Expr)(t:TE):Prop where
 h:PE X e t
structure XT(X:Cx)(e:Expr)(t:TT):Prop where
 h:PT X e t
structure XW(X:Cx)(e:Expr)(t:TT):Prop where
 h:PW X e t
structure XA(X:Cx)(es:List Expr)(t:TA):Prop where
 h:PA X es t
structure XS(X:Cx)(st:Stmt)(t:TS):Prop where
 h:PS X st t
structure XSs(X:Cx)(st:List Stmt)(t:TS):Prop where
 h:PSs X st t
structure XG(X:Cx)(target:Expr)(t:TG):Prop where
 h:PG X target t
structure XGs(X:Cx)(ts:List Expr)(t:TGs):Prop where
 h:PGs X ts t
structure XI(X:Cx)(tg iter:Expr)(wi:TI):Prop where
 h:PI X tg iter wi
structure XO(X:Cx)(e:Option Expr)(t:TO):Prop where
 h:PO X e t
structure XC(X:Cx)(op:CmpOp)(a b:Expr)(t:TE):Prop where
 h:PC X op a b t
structure xF(X:Cx)(ifs:List Expr)(t:TT):Prop where
 h:vM X ifs t
theorem aj{i j pos}:XE X (.Constant (.int i) j pos) (tC (.int i)):=⟨zj⟩
theorem iS{b j pos}:XE X (.Constant (.bool b) j pos) (tC (.bl b)):=⟨Dz⟩
theorem cx{j pos}:XE X (.Constant .none j pos) (tC .non):=⟨zm⟩
theorem aC{x j pos}:XE X (.Constant (.str x) j pos) (tC (.str x)):=⟨zq⟩
theorem av{tb:TE}{pos:Pos}{op:Operator}{r:R2}(ho:OpR X (binaryOp op) r)(ha:XE X a ta)(hb:XE X b tb):XE X (.BinOp a op b pos) (tOp r ta tb):=⟨by intro pins s σ H Q I h;exact wpAny_BinOp (F6 ha.h hb.h I h fun v u s2 x y H2 I2 rx ry q=>ho pins s2 σ H2 x y v u Q I2 rx ry q)⟩
theorem iT{pos:Pos}{op:UnaryOp}{r:V->Hp->VK->Prop}(ho:UnR X (unaryOp op) r)(ha:XE X a ta):XE X (.UnaryOp op a pos) (tUn r ta):=⟨by intro pins s σ H Q I h;exact UnaryOp_ (thn (ha.h pins s σ H _ I h) fun v s1 ⟨x,H1,I1,r1,q1⟩=>ho pins s1 σ H1 x v Q I1 r1 q1)⟩
theorem bQ{tb:TE}{pos:Pos}{op:CmpOp}{r:R2}(ho:OpR X (compareOp op) r)(ha:XE X a ta)(hb:XE X b tb)(hm:behindInMarks op b=false):XE X (.Compare a [op] [b] pos) (tOp r ta tb):=⟨by intro pins s σ H Q I h;exact wpAny_Compare1 (F6 ha.h hb.h I h fun v u s2 x y H2 I2 rx ry q=>ho pins s2 σ H2 x y v u Q I2 rx ry q) hm⟩
theorem nH{b:Expr}{tb:TE}{pos:Pos}{dh:List Expr}(ha:XE X a ta)(hb:XE X (.BoolOp .And (b::dh) pos) tb):XE X (.BoolOp .And (a::b::dh) pos) (EG ta tb):=⟨by
 intro pins s σ H Q I h;refine BoolOp_and (thn (ha.h pins s σ H _ I h) fun v s1 hhx=>?_);obtain ⟨x,H1,I1,r1,q1⟩:=hhx;obtain ⟨c,rfl,q1⟩:=q1
 cases r1
 refine wpAny_truthy_bool ?_
 cases c with
 |true=>exact hb.h pins s1 σ H1 Q I1 q1
 |false=>exact zAA (.bl false) H1 I1 rfl q1⟩
theorem Ib{b:Expr}{tb:TE}{pos:Pos}{dh:List Expr}(ha:XE X a ta)(hb:XE X (.BoolOp .Or (b::dh) pos) tb):XE X (.BoolOp .Or (a::b::dh) pos) (JE ta tb):=⟨by
 intro pins s σ H Q I h;refine BoolOp_or (thn (ha.h pins s σ H _ I h) fun v s1 hhx=>?_);obtain ⟨x,H1,I1,r1,q1⟩:=hhx;obtain ⟨c,rfl,q1⟩:=q1
 cases r1
 refine wpAny_truthy_bool ?_
 cases c with
 |false=>exact hb.h pins s1 σ H1 Q I1 q1
 |true=>exact zAA (.bl true) H1 I1 rfl q1⟩
theorem jA{pos:Pos}{op}{t:TE}(h:XE X a t):XE X (.BoolOp op [a] pos) t:=⟨fun pins s σ H Q I hw=>BoolOp_one (h.h pins s σ H Q I hw)⟩
theorem cD{tb:TE}{pos:Pos}(hc:XT X c tA)(ha:XE X a ta)(hb:XE X b tb):XE X (.IfExp c a b pos) (tIf tA ta tb):=⟨by
 intro pins s σ H Q I h;refine wpAny_IfExp (thn (hc.h pins s σ H _ I h) fun d s1 hhx=>?_);obtain ⟨H1,I1,q1⟩:=hhx
 cases d with
 |true=>exact ha.h pins s1 σ H1 Q I1 q1
 |false=>exact hb.h pins s1 σ H1 Q I1 q1⟩
theorem aJ{t:TA}{pos:Pos}(h:XA X es t):XE X (.List es pos) (JC t):=⟨by intro pins s σ H Q I hq;refine wpAny_List_spliced (thn (h.h pos pins s σ H _ I hq) fun us s1 ⟨xs,H1,I1,r,z,q⟩=>⟨by rw [<- r.length];exact z,?_⟩);have hf:H1 s1.heap.objs.size=none:=I1.hok.fresh (zq5 _);refine zAA (.ref s1.heap.objs.size) (upd H1 s1.heap.objs.size (.lst xs)) (I1.laid (t':=s1.toks) (fun b u e=>cc _ e) (zq5 _) ?_) rfl (q _ hf);exact ⟨z,zAD us 0 r (du _ rfl)⟩⟩
theorem aG{t:TA}{pos:Pos}{x1}(h:XA X es t):XE X (.Tuple es x1 pos) (JF t):=⟨by intro pins s σ H Q I hq;refine wpAny_Tuple_spliced (thn (h.h pos pins s σ H _ I hq) fun us s1 ⟨xs,H1,I1,r,z,q⟩=>⟨by rw [<- r.length];exact z,?_⟩);have hf:H1 s1.heap.objs.size=none:=I1.hok.fresh (zq5 _);refine zAA (.ref s1.heap.objs.size) (upd H1 s1.heap.objs.size (.tup xs)) (I1.laid (t':=s1.toks) (fun b u e=>cc _ e) (zq5 _) ?_) rfl (q _ hf);exact ⟨z,zn us r (zAC _ (du _ rfl) rfl ⟨_,rfl⟩)⟩⟩
theorem g8{pos:Pos}:XE X (.Dict [] [] pos) Ax:=⟨fun pins s σ H Q I h=>wpAny_Dict_empty (zAA (.ref s.heap.objs.size) _ (I.laid (a:=s.heap.objs.size) (o:=.dK []) (t':=s.toks) (fun _ _ q=>cc _ q) (zq5 _) (oN s.heap I.big)) rfl (h _ (I.hok.fresh (zq5 _))))⟩
theorem aL{pos:Pos}{e:Expr}{t:TA}{id:String}{r:List V->Hp->VK->Prop}(hc:dP X (.builtin id) r)(hg:Gl X x)(hm:X.mg x=none)(hv:bootBuiltins x=some (.builtin id))(ha:XA X (e::es) t)(hn:(x==("__name__":Str))=false:=by kernel_rfl) (hdb:(x==("__debug__":Str))=false:=by kernel_rfl) (he:starEach (e::es) X.env=(false,eval e X.env)::starEach es X.env:=by rfl) (hpl:(backTo pos (starEach es X.env)).any (·.1)=false:=by rfl):XE X (.Call (.Name x p) (e::es) [] pos) (tCB r t):=⟨zf hc hg hm hv ha.h (mV hn) hdb he hpl⟩
theorem bA{pos:Pos}{e:Expr}{t:TA}{T:String}{r:List V->Hp->VK->Prop}(hc:dP X (.type T) r)(hg:Gl X x)(hm:X.mg x=none)(hv:bootBuiltins x=some (.type T))(ha:XA X (e::es) t)(hn:(x==("__name__":Str))=false:=by kernel_rfl) (hdb:(x==("__debug__":Str))=false:=by kernel_rfl) (he:starEach (e::es) X.env=(false,eval e X.env)::starEach es X.env:=by rfl) (hpl:(backTo pos (starEach es X.env)).any (·.1)=false:=by rfl):XE X (.Call (.Name x p) (e::es) [] pos) (tCB r t):=⟨wR hc hg hm hv ha.h (mV hn) hdb he hpl⟩
theorem au{k:Nat}{fd:FuncData}{st:Stmt}{pos:Pos}{e:Expr}{t:TA}(D:bc X.K X.mg x st ps f fd)(G:FnOk X.prog X.w X.K X.mg X.base CX0 k f fd ps sp)(hr:Room k X.A)(ha:XA X (e::es) t)(hg:Gl X x)(hdb:(x==("__debug__":Str))=false:=by kernel_rfl) (he:starEach (e::es) X.env=(false,eval e X.env)::starEach es X.env:=by rfl) (hpl:(backTo pos (starEach es X.env)).any (·.1)=false:=by rfl):XE X (.Call (.Name x p) (e::es) [] pos) (qz sp [] E0 t):=⟨zy D G hr ha.h hg hdb he hpl⟩
theorem c7{e:Expr}{to:TE}{t:TA}{name:Str}{cpos:Pos}{T id:String}{r:V->List V->Hp->VK->Prop}(pa:PlainAttrs T)(slot:Slot T name id)(hty:typeOf (.builtin id)=pure (.type "method_descriptor")) (hm:MtR X id r) (ho:XE X o to) (ha:XA X (e::es) t) (hbase:attributeBase o name X.env (eval o X.env)=eval o X.env:=by rfl) (hfew:((backTo cpos (starEach (e::es) X.env)).all (fun x=>! x.1)&&(backToKw cpos (keywordEach [] X.env)).all (fun x=>x.1.isSome)
 && decide ((e::es).length+([]:List Keyword).length+(if ([]:List Keyword).isEmpty then 0 else 1)<30))=true:=by rfl) (hline:(apos.endLine==cpos.line)=true:=by rfl) (hs:starEach (e::es) X.env=(false,eval e X.env)::starEach es X.env:=by rfl) (hplain:(backTo cpos (starEach es X.env)).any (·.1)=false:=by rfl):XE X (.Call (.Attribute o name apos) (e::es) [] cpos) (tBM X.K T r to t):=⟨IL pa slot hty hm ho.h ha.h hbase hfew hline hs hplain⟩
theorem g7{to:TE}{name:Str}{cpos:Pos}{T id:String}{r:V->List V->Hp->VK->Prop}(pa:PlainAttrs T)(slot:Slot T name id)(hty:typeOf (.builtin id)=pure (.type "method_descriptor")) (hm:MtR X id r) (ho:XE X o to) (hbase:attributeBase o name X.env (eval o X.env)=eval o X.env:=by rfl) (hline:(apos.endLine==cpos.line)=true:=by rfl):XE X (.Call (.Attribute o name apos) [] [] cpos) (JA X.K T r to):=⟨by intro pins s σ H Q I h;refine wpAny_Call_method0_late hbase hline (thn (ho.h pins s σ H _ I h) fun v s1 hhx=>?_);obtain ⟨x,H1,I1,r1,ty,q1⟩:=hhx;obtain ⟨h1,h2⟩:=sX I1 r1 ty;exact zBB T id pa slot hty h1 h2 (Calls.callWith_builtin rfl (PySem.evalArgs_none (hm pins s1 σ H1 x [] v [] Q I1 r1 .nil q1)))⟩
theorem dO{lo hi:Option Expr}{tl th:TO}{pos p2:Pos}{r:V->Option Int->Option Int->Hp->VK->Prop}(hr:SlR X r)(he:XE X e te)(hl:XO X lo tl)(hu:XO X hi th):XE X (.Subscript e (.Slice lo hi none p2) pos) (tSl r te tl th):=⟨by intro pins s σ H Q I h;refine Subscript_ (thn (he.h pins s σ H _ I h) fun v s1 hhx=>?_);obtain ⟨x,H1,I1,r1,q1⟩:=hhx;refine wpAny_Slice (thn (hl.h pins s1 σ H1 _ I1 q1) fun vl s2 ⟨l,H2,I2,pl,q2⟩=>thn (hu.h pins s2 σ H2 _ I2 q2) fun vu s3 hhx=>?_);obtain ⟨u,H3,I3,pu,q3⟩:=hhx;rw [evalPart_none];refine zq4 ?_;have I4:Inv X pins σ H3 {s3 with heap:=s3.heap.push {cls:=.type "slice",data:=.fields #[vl,vu,.none]}}:=I3.kept (t':=s3.toks) fun b ob q=>cc _ q;obtain ⟨T,id,hT,ht,hg⟩:=hr pins {s3 with heap:=s3.heap.push {cls:=.type "slice",data:=.fields #[vl,vu,.none]}} σ H3 x v vl vu l u s3.heap.objs.size Q I4 r1 (Heap.IsSliceOf.new ..) pl pu q3;show wpAny (model X.prog X.w) X.A (subscriptTail e (.Slice lo hi none p2) v (.ref s3.heap.objs.size)) (EP X pins σ Q) X.xe {s3 with heap:=s3.heap.push {cls:=.type "slice",data:=.fields #[vl,vu,.none]}};exact tail_any (ops:=[.ref s3.heap.objs.size,v]) ht hT hg (by with_unfolding_all rfl)⟩
theorem cT{pos:Pos}{td ty:TE}(hu:X.A.units+1<cLine)(ho:XE X o td)(hi:XE X i ty)(hs:F1 i):XE X (.Subscript o i pos) (EI td ty):=⟨by intro pins s σ H Q I h;refine vn PySem.F.slot_dict_getitem.lookup hs (thn (ho.h pins s σ H _ I h) fun u s1 ⟨x,H1,I1,rx,q1⟩=>thn (hi.h pins s1 σ H1 _ I1 q1) fun iv s2 hhx=>?_);obtain ⟨y,H2,I2,ry,a,v,ex,g,q2⟩:=hhx;subst ex;obtain rfl:u=Value.ref a:=rx;exact ⟨oM I2 g,vZ hu I2 g ry fun w' s3 I3 rw'=>zAA v H2 I3 rw' q2⟩⟩
theorem ap{tb:TE}{pos:Pos}{r:R2}(hr:IxR X r)(ha:XE X a ta)(hb:XE X b tb)(hs:BE b:=by intro _ _;rfl):XE X (.Subscript a b pos) (tOp r ta tb):=⟨by intro pins s σ H Q I h;exact Subscript_ (F6 ha.h hb.h I h fun v u s2 x y H2 I2 rx ry q=>hr a b pins s2 σ H2 x y v u Q I2 rx ry q (hs _ _))⟩
theorem b9{f:Str}{pos:Pos}(he:XE X e ta)(hb:attributeBase e f X.env (eval e X.env)=eval e X.env):XE X (.Attribute e f pos) (JB X.K ta f):=⟨by intro pins s σ H Q I h;refine BH hb (thn (he.h pins s σ H _ I h) fun u s1 hhx=>?_);obtain ⟨x,H1,I1,rx,a,C,dx,fs,v,ex,ea,c,n,l,q⟩:=hhx;subst ex;obtain rfl:u=Value.ref a:=rx;exact rM I1 ea c n l fun u' s2 I2 ru=>zAA v H1 I2 ru q⟩
theorem bI{elt tgt:Expr}{ifs:List Expr}{pos:Pos}{scope:Scope}{g:Bk->TG}{tt:Bk->TT}{te:Bk->TE}{tns cns:List Str}{ci:List Nat}(hc:X.calm=true)(S:CompSc X scope cns ci)(hi:XI X tgt iter wi)(hg:∀bk:Bk,XG (X.blk (".0"::(tns++cns)) scope bk) tgt (g bk)) (ht:∀bk:Bk,xF (X.blk (".0"::(tns++cns)) scope bk) ifs (tt bk)) (he:∀bk:Bk,XE (X.blk (".0"::(tns++cns)) scope bk) elt (te bk)) (hs:∀v,foldedSetIterable iter X.env v=pure v:=by intro _;rfl):XE X (.ListComp elt [⟨tgt,iter,ifs,0⟩] scope pos) (kD wi g tt te tns.length ci):=⟨zh hc S hi.h (fun bk=>(hg bk).h) (fun bk=>(ht bk).h) (fun bk=>(he bk).h) hs⟩
theorem kJ{v:V}{u:Value}{pos:Pos}(hg:Gl X x)(hm:X.mg x=none)(hv:bootBuiltins x=some u)(r:RelV v u)(hn:(x==("__name__":Str))=false:=by kernel_rfl) (hd:(x==("__debug__":Str))=false:=by kernel_rfl):XE X (.Name x pos) (tC v):=⟨CA hg hm hv r (mV hn) hd⟩
theorem AR{v:V}{u:Value}{pos:Pos}(hg:Gl X x)(hm:X.mg x=some u)(r:RelV v u)(hd:(x==("__debug__":Str))=false:=by kernel_rfl):XE X (.Name x pos) (tC v):=⟨CC hg hm r hd⟩
theorem ar{tb:TE}{pos:Pos}{op:CmpOp}{r:R2}(ho:OpR X (compareOp op) r)(ha:XE X a ta)(hb:XE X b tb)(hm:behindInMarks op b=false):XT X (.Compare a [op] [b] pos) (EN (tOp r ta tb)):=⟨by
 intro pins s σ H Q I h;refine wpAny_isTrue_Compare1 (thn (ha.h pins s σ H _ I h) fun v s1 ⟨x,H1,I1,r1,q1⟩=>thn (hb.h pins s1 σ H1 _ I1 q1) fun u s2 ⟨y,H2,I2,r2,q2⟩=>thn (ho pins s2 σ H2 x y v u _ I2 r1 r2 q2) fun c s3 ⟨z,H3,I3,r3,k,e,q3⟩=>?_) hm
 subst e
 cases r3
 exact wpAny_truthy_bool (zn H3 I3 q3)⟩
theorem d9{t:TE}(h:XE X e t)(he:∀whole,isTrue e X.env whole=(do let v <- whole;standAt e.pos;holding [v] (truthy v)):=by intro _;rfl):XT X e (tB t):=⟨by
 intro pins s σ H Q I hw;refine isTrue_plain (thn (h.h pins s σ H _ I hw) fun v s1 hhx=>?_) (he _);obtain ⟨x,H1,I1,r1,q1⟩:=hhx;obtain ⟨d,rfl,q⟩:=q1
 cases r1
 exact wpAny_truthy_bool (zn H1 I1 q)⟩
theorem xq(ha:XE X a ta)(he:∀whole,isTrue a X.env whole=(do let v <- whole;standAt a.pos;holding [v] (truthy v))):XT X a (fun σ H Q=>ta σ H fun x H'=>∃k,F4 X.K x H' k/\Q k H'):=⟨zx ha.h he⟩
theorem iq{pos:Pos}(ha:XT X a tA):XT X (.UnaryOp .Not a pos) (JD tA):=⟨by intro pins s σ H Q I h;exact isTrue_not (ha.h pins s σ H (fun c H1=>Q (! c) H1) I h)⟩
theorem vz{pos:Pos}{op:CmpOp}{t:TE}(h:XC X op a b t)(h1:behindInMarks op b=false:=by first | exact yF _ Jkm Jkm | rfl):XT X (.Compare a [op] [b] pos) (tB t):=⟨by
 intro pins s σ H Q I hw;refine wpAny_isTrue_Compare1 (thn (h.h pins s σ H _ I hw) fun v s1 h1=>thn h1 fun u s2 h2=>thn h2 fun c s3 hhx=>?_) h1;obtain ⟨x,H1,I1,r1,q1⟩:=hhx;obtain ⟨d,rfl,q⟩:=q1
 cases r1
 exact wpAny_truthy_bool (zn H1 I1 q)⟩
theorem cE{t:TT}(h:XW X e t):XT X e t:=⟨PW.pt h.h⟩
theorem cK{b:Expr}{pos:Pos}{tB':TT}{dh:List Expr}(ha:XT X a tA)(hb:XW X (.BoolOp .And (b::dh) pos) tB'):XW X (.BoolOp .And (a::b::dh) pos) (Jz tA tB'):=⟨by
 intro wh pins s σ H Q I h;refine isTrue_and (thn (ha.h pins s σ H _ I h) fun c s1 hhx=>?_);obtain ⟨H1,I1,q1⟩:=hhx
 cases c with
 |true=>exact hb.h wh pins s1 σ H1 Q I1 q1
 |false=>exact zn H1 I1 q1⟩
theorem cB{pos:Pos}(ha:XT X a tA):XW X (.BoolOp .And [a] pos) tA:=⟨by
 intro wh pins s σ H Q I h;refine isTrue_and (thn (ha.h pins s σ H Q I h) fun c s1 e=>?_)
 cases c with
 |true=>exact isTrue_and_nil e
 |false=>exact e⟩
theorem iU{b:Expr}{pos:Pos}{tB':TT}{dh:List Expr}(ha:XT X a tA)(hb:XW X (.BoolOp .Or (b::dh) pos) tB'):XW X (.BoolOp .Or (a::b::dh) pos) (tOr tA tB'):=⟨by
 intro wh pins s σ H Q I h;refine isTrue_or (thn (ha.h pins s σ H _ I h) fun c s1 hhx=>?_);obtain ⟨H1,I1,q1⟩:=hhx
 cases c with
 |true=>exact zn H1 I1 q1
 |false=>exact hb.h wh pins s1 σ H1 Q I1 q1⟩
theorem ir{pos:Pos}(ha:XT X a tA):XW X (.BoolOp .Or [a] pos) tA:=⟨by
 intro wh pins s σ H Q I h;refine isTrue_or (thn (ha.h pins s σ H Q I h) fun c s1 e=>?_)
 cases c with
 |false=>exact isTrue_or_nil e
 |true=>exact e⟩
theorem ae:XA X [] qB:=⟨zd⟩
theorem aa{e:Expr}{t:TA}(ha:XE X e te)(hr:XA X es t)(hs:starEach (e::es) X.env=(false,eval e X.env)::starEach es X.env:=by rfl):XA X (e::es) (Av te t):=⟨uD ha.h hr.h hs⟩
theorem io:XO X none vq:=⟨by intro pins s σ H Q I h;rw [evalPart_none];exact zq4 (zAA none H I .none h)⟩
theorem dm(h:XE X e te):XO X (some e) (EM te):=⟨by intro pins s σ H Q I hw;rw [evalPart_some];refine thn (h.h pins s σ H _ I hw) fun u s1 hhx=>?_;obtain ⟨x,H1,I1,r1,q1⟩:=hhx;obtain ⟨i,rfl,q⟩:=q1;obtain ⟨t,rfl⟩:=r1;exact zAA (some i) H1 I1 (.int i t) q⟩
theorem aA{pos:Pos}{i:Nat}(hN:X.N.Nodup)(hi:X.N[i]?=some x)(hx:Loc X.env.scope x)(hf:X.fn x=true\/X.env.scope.names.lookup x=some .local:=by first | exact .inl rfl | exact .inr rfl | assumption):XG X (.Name x pos) (bK i):=⟨uF hN hi hx hf⟩
theorem eo{pos:Pos}{k:Nat}{t:TGs}{n:Nat}(hc:X.calm=true)(h:XGs X es t)(hn:(assignEach es X.env).length=n:=by rfl)(hst:(assignEach es X.env).findIdx? (·.1)=none:=by rfl):XG X (.Tuple es k pos) (Iu X.K n t):=⟨by
 intro pins s σ H v u Q I r hw;obtain ⟨a,xs,e1,hq,hl,hw⟩:=hw;subst e1
 cases r
 obtain ⟨its,rv,ht,hz⟩:=I.tuple hq;refine assign_Tuple_tuple (I.ok.hd hc) ht (by simp [hn,<- hl,rv.length]) hst fun h' hx=>?_;have I1:Inv X pins σ H {s with heap:=h'}:=I.kept (t':=s.toks) fun b o e=>hx b o (cF (bT e)) e;exact h.h pins _ σ H xs _ Q I1 (by simpa using rv) hw⟩
theorem dk:XGs X [] Ir:=⟨by
 intro pins s σ H vs us Q I r h;obtain ⟨e,h⟩:=h;subst e
 cases r
 exact assignInOrder_nil (zAD σ H I h)⟩
theorem aV{e:Expr}{t:TG}{u:TGs}(h1:XG X e t)(h2:XGs X es u)(hs:(assignEach (e::es) X.env).map (·.2)=assign e X.env::(assignEach es X.env).map (·.2):=by rfl):XGs X (e::es) (Dt t u):=⟨by
 intro pins s σ H vs us Q I r h;obtain ⟨v,vr,e1,h⟩:=h;subst e1
 cases r with
 |cons r rr=>rw [hs];refine assignInOrder_cons (thn (h1.h pins s σ H _ _ _ I r h) fun _ s1 hhx=>?_);obtain ⟨σ1,H1,I1,q1⟩:=hhx;exact h2.h pins s1 σ1 H1 _ _ Q I1 rr q1⟩
theorem nK{pos:Pos}{to ti:TE}{t:xE}(ho:XE X o to)(hi:XE X i ti)(hs:F3 X t)(ha:∀v,assign (.Subscript o i pos) X.env v=(do
 let ov <- holding [v] (eval o X.env)
 let iv <- holding [v,ov] (eval i X.env)
 standAt pos
 holding [v,ov,iv] (setItem ov iv v)
 release [v,ov,iv] []):=by intro _;rfl):XG X (.Subscript o i pos) (Fg to ti t):=⟨G3 ho.h hi.h hs ha⟩
theorem cm{tg:Expr}{ta:TA}{pos:Pos}(hg:Gl X "range") (hm:X.mg "range"=none) (ha:XA X [a] ta) (hs:starEach [a] X.env=[(false,eval a X.env)]:=by rfl):XI X tg (.Call (.Name "range" p) [a] [] pos) (Dv ta):=⟨by
 intro pins s σ H R I h;refine Call_ (eX I hg hm boot_range (PyProof.Rows.callWith_type1 (thn (ha.h pos pins s σ H _ I h) fun us s1 hhx=>?_) hs rfl));obtain ⟨vs,H1,I1,r1,q1⟩:=hhx;obtain ⟨j,e,q1,q2,q⟩:=q1;subst e
 cases r1 with
 |cons r rr=>
  cases rr
  obtain ⟨t,rfl⟩:=r;exact call_range_1 (A0 I1 Jlk Jlk q1 q2 (by simpa using q))⟩
theorem kI{ta:TA}{pos pos0:Pos}{elts:List Expr}{k0:Nat}(hm:X.mg "enumerate"=none) (ha:XA X [a] ta) (hg:Gl X "enumerate":=by rfl) (hs:starEach [a] X.env=[(false,eval a X.env)]:=by rfl):XI X (.Tuple elts k0 pos0) (.Call (.Name "enumerate" p) [a] [] pos) (yr X.K ta):=⟨CG hm ha.h hg hs⟩
theorem aY{tg:Expr}{l:Expr}{tl:TE}(hl:XE X l tl):XI X tg l (Du X.K tl):=⟨by
 intro pins s σ H R I h;refine thn (hl.h pins s σ H _ I h) fun v s1 hhx=>?_;obtain ⟨x,H1,I1,r1,q1⟩:=hhx;obtain ⟨a,e,⟨xs,hq⟩,q⟩:=q1;subst e
 cases r1
 obtain ⟨its,rv,p,hz⟩:=I1.list hq;refine wpAny_pyIter_list p.isList ?_;refine zAZ s1.heap.objs.size ([s1.heap.objs.size]) _ _ H1 rfl (I1.kept (t':=s1.toks) fun b o e=>cc _ e) (xj a _) (zAC _ (du _ rfl) rfl rfl) (fun b hb=>?_) q;have e:b=s1.heap.objs.size:=by simpa using hb
 subst e;exact I1.fpOk (zq5 _) (I1.hok.fresh (zq5 _))⟩
theorem vx{tg:Expr}{l:Expr}{tl:TE}(hl:XE X l tl):XI X tg l (Iw X.K tl):=⟨by
 intro pins s σ H R I h;refine thn (hl.h pins s σ H _ I h) fun v s1 hhx=>?_;obtain ⟨x,H1,I1,r1,q1⟩:=hhx;obtain ⟨a,e,⟨xs,hq⟩,q⟩:=q1;subst e
 cases r1
 obtain ⟨its,rv,p,hz⟩:=I1.tuple hq;refine wpAny_pyIter_tuple (show s1.heap.IsTuple a its.toArray from p) ?_;refine zAZ s1.heap.objs.size ([s1.heap.objs.size]) _ _ H1 rfl (I1.kept (t':=s1.toks) fun b o e=>cc _ e) (sU a _) (zAC _ (du _ rfl) rfl rfl) (fun b hb=>?_) q;have e:b=s1.heap.objs.size:=by simpa using hb
 subst e;exact I1.fpOk (zq5 _) (I1.hok.fresh (zq5 _))⟩
theorem aq{pos:Pos}{i:Nat}(hN:X.N.Nodup)(hi:X.N[i]?=some x)(hx:Loc X.env.scope x)(he:XE X e te)(hs:swapsWith e (some (.Name x pos')) pos.line X.env=pure false:=by rfl)(hf:X.fn x=true\/X.env.scope.names.lookup x=some .local:=by first | exact .inl rfl | exact .inr rfl | assumption):XS X (.Assign [.Name x pos'] e pos) (De te (bK i)):=⟨Ge hN hi hx he.h hs hf⟩
theorem ez{i:Nat}{px:Pos}{elt tgt:Expr}{ifs:List Expr}{pos:Pos}{scope:Scope}{g:Bk->TG}{tt:Bk->TT}{te:Bk->TE}{tns cns:List Str}{ci:List Nat}(hN:X.N.Nodup)(hx:X.N[i]?=some x)(hl:Loc X.env.scope x)(hf:X.fn x=true)(hsw:swapsWith (.ListComp elt [⟨tgt,iter,ifs,0⟩] scope pos) (some (.Name x px)) pos'.line X.env=pure true)(hc:X.calm=true)(S:CompSc X scope cns ci)(hi:XI X tgt iter wi)(hg:∀bk:Bk,XG (X.blk (".0"::(tns++cns)) scope bk) tgt (g bk)) (ht:∀bk:Bk,xF (X.blk (".0"::(tns++cns)) scope bk) ifs (tt bk)) (he:∀bk:Bk,XE (X.blk (".0"::(tns++cns)) scope bk) elt (te bk)) (hs:∀v,foldedSetIterable iter X.env v=pure v:=by intro _;rfl):XS X (.Assign [.Name x px] (.ListComp elt [⟨tgt,iter,ifs,0⟩] scope pos) pos') (ku i wi g tt te tns.length ci):=⟨su hN hx hl hf hsw hc S hi.h (fun bk=>(hg bk).h) (fun bk=>(ht bk).h) (fun bk=>(he bk).h) hs⟩
theorem ip{pos:Pos}{tg:Expr}{g:TG}(he:XE X e te)(hg:XG X tg g)(hs:swapsWithSole [tg] e pos.line X.env=pure false:=by rfl)(hw:swappedStores [tg] e X.env=pure none:=by rfl)(h1:(assignEach [tg] X.env).map (·.2)=[assign tg X.env]:=by rfl):XS X (.Assign [tg] e pos) (De te g):=⟨by intro pins s σ H D I h;refine wpAny_Assign_stores (thn (he.h pins s σ H _ I h) fun v s1 hhx=>?_) hs hw;obtain ⟨x,H1,I1,r1,q1⟩:=hhx;rw [h1];exact thn (hg.h pins s1 σ H1 x v _ I1 r1 q1) fun _ s2 q=>q⟩
theorem cn{value:Expr}{f:Str}{pos:Pos}{tv:TE}(ha:XE X o ta)(hv:XE X value tv)(hs:swapsWith value (some (.Attribute o f pos')) pos.line X.env=pure false):XS X (.Assign [.Attribute o f pos'] value pos) (Jy X.K ta tv f):=⟨by intro pins s σ H D I h;refine plainObj_wpAny_Assign_Attribute (thn (hv.h pins s σ H _ I h) fun u s1 ⟨y,H1,I1,ry,q⟩=>thn (ha.h pins s1 σ H1 _ I1 q) fun ov s2 hhx=>?_) hs;obtain ⟨x,H2,I2,rx,a,C,dx,fs,ex,ea,c,n,l,q2⟩:=hhx;subst ex;obtain rfl:ov=Value.ref a:=rx;exact sM I2 ea c n l ry fun s3 I3=>zAD σ _ I3 q2⟩
theorem dq{value:Expr}{pos:Pos}{td ty tv:TE}(hu:X.A.units+1<cLine)(ho:XE X o td)(hi:XE X i ty)(hv:XE X value tv)(hs:swapsWith value (some (.Subscript o i pos')) pos.line X.env=pure false):XS X (.Assign [.Subscript o i pos'] value pos) (A5 td ty tv):=⟨CK hu ho.h hi.h hv.h hs⟩
theorem aw{pos:Pos}(he:XE X e te):XS X (.Return (some e) pos) (AA te):=⟨by intro pins s σ H D I h;exact wpAny_Return_some (thn (he.h pins s σ H _ I h) fun v s1 ⟨x,H1,I1,r1,q1⟩=>zAN x σ H1 I1 r1 q1)⟩
theorem aR{pos:Pos}(he:XE X e te)(hs:swapsWith e none pos.line X.env=pure false:=by rfl):XS X (.Expr e pos) (EK te):=⟨by intro pins s σ H D I h;exact wpAny_Expr_any (thn (he.h pins s σ H _ I h) fun v s1 ⟨x,H1,I1,r1,q1⟩=>zAD σ H1 I1 q1) I.quiet hs⟩
theorem aH{t u:TS}{pos:Pos}{a b:List Stmt}{tc:TT}(hc:XT X c tc)(ha:XSs X a t)(hb:XSs X b u):XS X (.If c a b pos) (HS tc t u):=⟨by
 intro pins s σ H D I h;refine wpAny_If (thn (hc.h pins s σ H _ I h) fun d s1 hhx=>?_);obtain ⟨H1,I1,q1⟩:=hhx
 cases d with
 |true=>exact ha.h pins s1 σ H1 D I1 q1
 |false=>exact hb.h pins s1 σ H1 D I1 q1⟩
theorem eN{pos:Pos}{body:List Stmt}{tc:TT}{tb:TS}(hp:PassesOwn (model X.prog X.w) X.A X.env X.xe)(hc:XT X c tc)(hb:XSs X body tb):XS X (.While c body [] pos) (AC tc tb):=⟨by
 intro pins s σ H D I h;obtain ⟨W,⟨m0,w0⟩,turn⟩:=h;refine wpAny_While (codeAny_whileLoop (fun n s'=>∃σ' H',Inv X pins σ' H' s'/\W n σ' H') ?_ m0 (zAD σ H I w0));rintro n s1 ⟨σ1,H1,I1,w1⟩;refine wpAny_passesOwn hp (thn (hc.h pins s1 σ1 H1 _ I1 (turn n σ1 H1 w1)) fun b s2 hhx=>?_);obtain ⟨H2,I2,q2⟩:=hhx
 cases b with
 |true=>
  obtain ⟨N,hN,q2⟩:=q2;rw [zq1 rfl];refine wpAny_passesOwn hp (thn (hb.h pins s2 σ1 H2 _ I2 q2) fun f s3 q3=>?_)
  cases f with
  |next=>
   obtain ⟨σ3,H3,I3,n3⟩:=q3;obtain ⟨m',hm,w3⟩:=hN σ3 H3 n3;exact zn m' hm (zAD σ3 H3 I3 w3)
  |cont=>
   obtain ⟨σ3,H3,I3,n3⟩:=q3;obtain ⟨m',hm,w3⟩:=hN σ3 H3 n3;exact zn m' hm (zAD σ3 H3 I3 w3)
  |brk=>exact q3
  |ret v=>exact q3
 |false=>rw [zq0 bw];exact wpAny_execs_nil (zAD σ1 H2 I2 q2)⟩
theorem br{tg:Expr}{body:List Stmt}{g:TG}{tb:TS}{pos:Pos}(hp:PassesOwn (model X.prog X.w) X.A X.env X.xe)(hc:X.calm=true)(hi:XI X tg iter wi)(hg:XG X tg g)(hb:XSs X body tb)(hs:∀x,foldedSetIterable iter X.env x=pure x:=by intro _;rfl):XS X (.For tg iter body [] pos) (HR wi g tb):=⟨Gd hp hc hi.h hg.h hb.h hs⟩
theorem nL{pos:Pos}:XS X (.Continue pos) EH:=⟨fun _ _ σ H _ I h=>wpAny_Continue (zAD σ H I h)⟩
theorem aD:XSs X [] EL:=⟨fun _ _ σ H _ I h=>wpAny_execs_nil (zAD σ H I h)⟩
theorem ak{st:Stmt}{t:TS}(h1:XS X st t):XSs X [st] t:=⟨by
 intro pins s σ H D I h;refine wpAny_execs_cons (thn (h1.h pins s σ H D I h) fun f s1 q=>?_)
 cases f with
 |next=>exact wpAny_execs_nil q
 |ret v=>exact q
 |brk=>exact q
 |cont=>exact q⟩
theorem ai{st:Stmt}{dh:List Stmt}{t u:TS}(h1:XS X st t)(h2:XSs X dh u):XSs X (st::dh) (HV t u):=⟨by
 intro pins s σ H D I h;refine wpAny_execs_cons (thn (h1.h pins s σ H {D with nx:=u D} I h) fun f s1 q=>?_)
 cases f with
 |next=>
  obtain ⟨σ',H',I',q⟩:=q;exact h2.h pins s1 σ' H' D I' q
 |ret v=>exact q
 |brk=>exact q
 |cont=>exact q⟩
theorem c9{st:Stmt}{ss:List Stmt}{ta tb:TS}(h1:XS X st ta)(h2:XSs X ss tb):XSs X (st::ss) (HU ta tb):=⟨by
 intro pins s σ H D I h;obtain ⟨Mid,a,b⟩:=h;refine wpAny_execs_cons (thn (h1.h pins s σ H {D with nx:=Mid} I a) fun f s1 q=>?_)
 cases f with
 |next=>
  obtain ⟨σ',H',I',q⟩:=q;exact h2.h pins s1 σ' H' D I' (b σ' H' q)
 |ret v=>exact q
 |brk=>exact q
 |cont=>exact q⟩
theorem bY:xF X [] jo:=⟨fun pins s σ H Q I h=>wpAny_tests_nil (zn H I h)⟩
theorem nJ{t:TT}(h:XT X c t):xF X [c] t:=⟨fun pins s σ H Q I q=>wpAny_tests_one (h.h pins s σ H Q I q)⟩
theorem kH{td ty:TE}(hu:X.A.units+1<cLine)(hi:XE X i ty)(ho:XE X o td):XC X .NotIn i o (nC ty td):=⟨by intro pins s σ H Q I h;refine thn (hi.h pins s σ H _ I h) fun iv s1 ⟨y,H1,I1,ry,q1⟩=>thn (ho.h pins s1 σ H1 _ I1 q1) fun u s2 hhx=>?_;obtain ⟨x,H2,I2,rx,a,ov,ex,g,q2⟩:=hhx;subst ex;obtain rfl:u=Value.ref a:=rx;exact BX hu I2 g ry fun s3 I3=>zAA (.bl (! ov.isSome)) H2 I3 rfl q2⟩
theorem JJ{CX:CXT}{k:Nat}{C:Addr}{fd:FuncData}{dvs:List V}{ds:List Value}{E:XK}{m:Str}{pos:Pos}{e:Expr}{t:TA}{pl:Sem Bool}(he:XE X o ta)(c:Cls X.K C)(hm:vL X.K C m f)(F:FnOk X.prog X.w X.K X.mg X.base CX k f fd ps sp)(hr:Room k X.A)(hb:Binds X.K fd ps ds)(hd:Vals dvs ds)(hx:eO CX X E)(ha:XA X (e::es) t)(hst:starEach (e::es) X.env=(false,eval e X.env)::starEach es X.env:=by rfl)(hpl:(backTo pos (starEach es X.env)).any (·.1)=false:=by rfl)(ht:eval (.Call (.Attribute o m apos) (e::es) [] pos) X.env=(do
 let ov <- eval o X.env
 standAt apos.atName
 let (f,first) <- holding [ov] (getMethod ov m pl)
 callWith pos f first (backTo pos (starEach (e::es) X.env)) (backToKw pos (keywordEach [] X.env))):=by rfl):XE X (.Call (.Attribute o m apos) (e::es) [] pos) (ii C m sp dvs E ta t):=⟨uE he.h c hm F hr hb hd hx ha.h hst hpl ht⟩
theorem AO{pos:Pos}{keys:List (Option Expr)}{values:List Expr}{trs:List (TE×TE)}(h:PPs X pos keys values trs)(hall:keys.all (·.isSome)=true)(hl:keys.length=values.length)(h0:keys≠[])(h15:keys.length<=15):XE X (.Dict keys values pos) (EJ trs):=⟨by
 intro pins s σ H Q I q;have hn:=I.hok.fresh (zq5 s.heap.objs.size);have I1:=I.laid (a:=s.heap.objs.size) (o:=.dK []) (h':=s.heap.push {cls:=.type "dict",data:=.dict #[]}) (t':=s.toks) (fun _ _ q=>cc _ q) (zq5 _) (oN s.heap I.big);refine wpAny_Dict_walk (knd:=bi X.prog X.w) hall hl h0 h15 (thn (h pins _ σ _ _ I1 (q _ hn)) fun ws s2 hhx=>?_);obtain ⟨ps,H2,I2,rel,e,kvs,ep,lk,q2⟩:=hhx;subst ep;obtain ⟨rs,c,rk⟩:=jH (P:=X.prog) (w:=X.w) rel;obtain ⟨z,hd,vs0,r0,dd⟩:=Ds I2.hok e
 cases r0
 refine zAC rs c dd fun h' dd' hs=>zAA (.ref s.heap.objs.size) _ ?_ rfl q2;have hz:(gG [] kvs).length<=sizeLine:=by have h1:=gv kvs [];rw [BA] at h1;rw [zq8];omega
 have he:∃q,h'.get? s.heap.objs.size=some q:=let ⟨q,_,_,hq,_⟩:=dd';⟨q,hq⟩;exact fN I2 (by rw [e];exact True.intro) hs he (mI hz hd (rk.merge .nil) dd')⟩
theorem iV{k:Nat}{C:Addr}{fd:FuncData}{st:Stmt}{pos:Pos}{e:Expr}{t:TA}(c:KlsAt X.K X.mg x C)(D:bJ X.K C "__init__" qual st ps f fd) (G:FnOk X.prog X.w X.K X.mg X.base CX0 k f fd ps sp) (hr:Room (k+1) X.A) (ha:XA X (e::es) t) (hg:Gl X x) (hdb:(x==("__debug__":Str))=false:=by kernel_rfl) (he:starEach (e::es) X.env=(false,eval e X.env)::starEach es X.env:=by rfl) (hpl:(backTo pos (starEach es X.env)).any (·.1)=false:=by rfl):XE X (.Call (.Name x p) (e::es) [] pos) (kE C sp [] E0 t):=⟨zA c D G hr ha.h hg hdb he hpl⟩
theorem tq{k:Nat}{C:Addr}{fd:FuncData}{st:Stmt}{pos:Pos}(c:KlsAt X.K X.mg x C)(D:bJ X.K C "__init__" qual st ps f fd) (G:FnOk X.prog X.w X.K X.mg X.base CX0 k f fd ps sp) (hr:Room (k+1) X.A) (hg:Gl X x) (hdb:(x==("__debug__":Str))=false:=by kernel_rfl):XE X (.Call (.Name x p) [] [] pos) (kE C sp [] E0 qB):=⟨zk (c.make D) G hr hg c.M D.B .nil pQ hdb⟩
theorem aW{k:Nat}{C:Addr}{fd:FuncData}{m:Str}{st:Stmt}{pos:Pos}{e:Expr}{t:TA}{pl:Sem Bool}(c:Cls X.K C)(D:bJ X.K C m qual st ps f fd)(G:FnOk X.prog X.w X.K X.mg X.base CX0 k f fd ps sp)(hr:Room k X.A)(he:XE X o ta)(ha:XA X (e::es) t)(hst:starEach (e::es) X.env=(false,eval e X.env)::starEach es X.env:=by rfl)(hpl:(backTo pos (starEach es X.env)).any (·.1)=false:=by rfl)(ht:eval (.Call (.Attribute o m apos) (e::es) [] pos) X.env=(do
 let ov <- eval o X.env
 standAt apos.atName
 let (f,first) <- holding [ov] (getMethod ov m pl)
 callWith pos f first (backTo pos (starEach (e::es) X.env)) (backToKw pos (keywordEach [] X.env))):=by rfl):XE X (.Call (.Attribute o m apos) (e::es) [] pos) (ii C m sp [] E0 ta t):=⟨zB c D G hr he.h ha.h hst hpl ht⟩
theorem gL{k:Nat}{C:Addr}{fd:FuncData}{m:Str}{st:Stmt}{pos:Pos}{pl:Sem Bool}(c:Cls X.K C)(D:bJ X.K C m qual st ps f fd)(G:FnOk X.prog X.w X.K X.mg X.base CX0 k f fd ps sp)(hr:Room k X.A)(he:XE X o ta)(ht:eval (.Call (.Attribute o m apos) [] [] pos) X.env=(do
 let ov <- eval o X.env
 standAt apos.atName
 let (f,first) <- holding [ov] (getMethod ov m pl)
 callWith pos f first (backTo pos (starEach [] X.env)) (backToKw pos (keywordEach [] X.env))):=by rfl):XE X (.Call (.Attribute o m apos) [] [] pos) (ii C m sp [] E0 ta qB):=⟨wX c D G hr he.h ht⟩
theorem iR{vs:List V}(h:js es=some vs):XA X es (tVs vs):=⟨pP h⟩
end L2
namespace L2
theorem Dl  {X:Cx} {tg a:Expr} {ta:TA} {p pos:Pos} (hm:X.mg "reversed"=none) (ha:XA X [a] ta) (hg:Gl X "reversed":=by rfl) (hs:starEach [a] X.env=[(false,eval a X.env)]:=by rfl):XI X tg (.Call (.Name "reversed" p) [a] [] pos) (Fi X.K ta):=⟨G7 hm ha.h hg hs⟩
end L2
namespace L2
section
variable {X:Cx}
def BU(x:V)(xs:List V):Nat:=xs.countP fun y=>eqV y x
def zD(K:W.Frag):V->List V->Hp->VK->Prop:=fun x vs H Q=>∃l xs y,x=.ref l/\vs=[y]/\SqL K H l xs/\bG y=true/\xs.all bG=true/\Q (.int (BU y xs)) H
theorem lH{x:V}:∀{xs:List V} {us:List Value},Vals xs us->xs.all bG=true->us.countP (eqU x)=xs.countP fun y=>eqV y x
 |_,_,.nil,_=>rfl
 |x'::xs,_,.cons h t,f=>by rw [tD,eG] at f;rw [xv,xv,lH t f.2,rJ h f.1]
theorem yB:MtM X "list.count" (zD X.K):=by
 intro pins s σ H x vs v us Q I rx rv h;obtain ⟨l,xs,y,rfl,rfl,hq,fy,fx,q⟩:=h
 cases rx
 obtain ⟨u,rfl,ru⟩:=rv.one;obtain ⟨its,r,pl,_⟩:=I.list hq;obtain ⟨o,n,e,c,hd,hdt⟩:=id pl;obtain ⟨oc,od,odt,osl⟩:=o;simp only at c hd hdt;subst c hd hdt;refine call_meets F.slot_list_count (zn _ e rfl) F.entry_list_count (F.args_list_count_2 _ _) (SeqAt.list_countAt l its.toArray n none osl u (eqU y)) (zAB e (fun z hz=>eJ ru fy r fx z (by simpa using hz)) ?_);rw [show its.toArray.toList=its from rfl,lH r fx];exact zAA (.int _) H (I.tok _) ⟨_,rfl⟩ q
theorem wu{acc:Array Value}{n:Nat}(h:ItemsOf (fun i v=>∃t,v=Value.int (0+(i:Int) * 1) t) acc n):Vals ((List.range n).map fun i:Nat=>V.int i) acc.toList:=by
 obtain ⟨h1,h2⟩:=h;subst h1;rw [<- By];have g:∀(l:List Value)(k:Nat),(∀(i:Nat)v,l[i]?=some v->∃t,v=Value.int ((k+i:Nat):Int) t)->Vals ((List.range' k l.length).map fun i:Nat=>V.int i) l:=by
  intro l
  induction l with
  |nil=>intro k _;exact .nil
  |cons a l ih=>
   intro k hl;refine .cons ?_ (ih (k+1) fun i v hv=>?_)
   ·obtain ⟨t,e⟩:=hl 0 a rfl;exact ⟨t,e⟩
   ·obtain ⟨t,e⟩:=hl (i+1) v hv;exact ⟨t,by rw [e];congr 1;omega⟩
 have z:=g acc.toList 0 fun i v hv=>by obtain ⟨t,e⟩:=h2 i v (by rw [<- hv,vD]);exact ⟨t,by rw [e];congr 1;omega⟩
 rw [List.range_eq_range'];exact z
end
def Fn(pr:Params):Key->Int
 | .inl k=>hashInt k
 | .inr x=>if x.cps.isEmpty=true then 0 else reduceHash (pr.strHash x.cps)
def nT(K:W.Frag)(pr:Params)(a:Addr)(kvs:List (Key×V)):Prop:=∃(es:List DictEntry)(ep:Nat),K.lookup a=some ⟨.type "dict",none,.dict es.toArray ep,#[]⟩/\(a==sysModules)=false/\(kvs.map (·.1)).Nodup/\Paired (fun (kv:Key×V) (e:DictEntry)=>j8 kv.1 e.key=true/\e.hash=Fn pr kv.1/\RelV kv.2 e.val) kvs es
theorem j6{P:Program}{w:World}:∀{kvs:List (Key×V)} {es:List DictEntry},Paired (fun (kv:Key×V) (e:DictEntry)=>j8 kv.1 e.key=true/\e.hash=Fn w.params kv.1/\RelV kv.2 e.val) kvs es->
  ∃vs:List (Key×Value),KV kvs vs/\Pairs (bi P w) es vs/\∀e∈es,∃k,(bi P w).is k e.key=true/\e.hash=(bi P w).hash k
 |_,_,.nil=>zAC ([]) .nil .nil Jll
 |kv::kvs,e::es,.cons h t=>by
  obtain ⟨vs,r,p,q⟩:=j6 (P:=P) t;obtain ⟨h1,h2,h3⟩:=h;refine zAC ((kv.1,e.val)::vs) (.cons ⟨rfl,h3⟩ r) (.cons h1 rfl p) fun e' he=>?_;rcases zq12.mp he with z | z
  ·subst z;refine zn kv.1 h1 (h2.trans ?_);obtain ⟨k,v⟩:=kv
   cases k<;>rfl
  ·exact q e' z
theorem oK{X:Cx}{pins:List (Addr×Obj)}{σ:St}{H:Hp}{s:Shared}{a:Addr}{kvs:List (Key×V)}{pr:Params}(hw:pr=X.w.params)(I:Inv X pins σ H s)(D:nT X.K pr a kvs):(a==sysModules)=false/\∃vs,KV kvs vs/\s.heap.DictOf (bi X.prog X.w) a vs:=by subst hw;obtain ⟨es,ep,hk,hd,nd,pr⟩:=D;obtain ⟨vs,r,p,q⟩:=j6 (P:=X.prog) pr;refine ⟨hd,zn vs r (zBD _ es.toArray ep (I.kIn a _ hk) (zAB rfl rfl rfl) rfl (fun e he=>q e (by simpa using he)) p ?_)⟩;rw [<- r.keys];exact nd
def sO(kvs:List (Key×V))(ty:TE):TE:=fun σ H Q=>ty σ H fun y H1=>∃k,y=kV k/\Q ((bh kvs k).getD .non) H1
section
variable {X:Cx} {e:Expr} {x:Str} {p apos cpos:Pos} {ty:TE} {a:Addr} {kvs:List (Key×V)} {pr:Params}
theorem zz(hw:pr=X.w.params)(D:nT X.K pr a kvs)(hm:X.mg x=some (.ref a))(hg:Gl X x)(he:PE X e ty)(m:M1 X (.Name x p) "get" apos e cpos) (hdb:(x==("__debug__":Str))=false:=by kernel_rfl) :
  PE X (.Call (.Attribute (.Name x p) "get" apos) [e] [] cpos) (sO kvs ty):=by
 intro pins s σ H Q I h;refine wpAny_Call_method m.base m.few m.line PySem.F.plainAttrs_dict PySem.F.slot_dict_get PySem.F.type_dict_get (gW I hg hm ?_ hdb);obtain ⟨hd,vs,rel,dd⟩:=oK hw I D;refine zAB dd.typeIs (fun b q=>?_) ?_
 ·cases q
  obtain ⟨ob,_,_,h1,h2,_⟩:=dd;exact zn ob h1 h2.2.1
 rw [m.trees];refine Calls.callWith_builtin rfl (Calls.evalArgs_plain (Calls.spliced_cons (thn (he pins s σ H _ I h) fun iv s2 ⟨y,H2,I2,ry,k,ek,q2⟩=>Calls.spliced_nil ?_)));subst ek;obtain ⟨hd,vs,rel,dd⟩:=oK hw I2 D;refine call_meetsIn PySem.F.slot_dict_get dd.typeIs PySem.F.entry_dict_get (PySem.F.args_dict_get_2 _ _) (meets_dict_get (bi X.prog X.w) a (lQ ry) hd) (zn _ dd.mapOf (zAA _ H2 (I2.tok _) ((rel.val k).getD (show RelV .non .none from rfl)) q2))
theorem xr(hw:pr=X.w.params)(D:nT X.K pr a kvs)(hm:X.mg x=some (.ref a))(hg:Gl X x)(he:XE X e ty)(m:M1 X (.Name x p) "get" apos e cpos) (hdb:(x==("__debug__":Str))=false:=by kernel_rfl) :
  XE X (.Call (.Attribute (.Name x p) "get" apos) [e] [] cpos) (sO kvs ty):=⟨zz hw D hm hg he.h m hdb⟩
theorem D2{kvs:List (Key×V)}{ty:TE}{σ:St}{H:Hp}{Q:VK}:sO kvs ty σ H Q=ty σ H fun y H1=>∃k,y=kV k/\Q ((bh kvs k).getD .non) H1:=rfl
end
end L2
namespace L2
section
variable {prog:Program} {w:World} {A:Around} {E:Value->Shared->Prop} {s:Shared}
open AutoSeq1 (wpAny_loadPart') in
end
section
variable {K:W.Frag} {a:Addr} {xs:List V}
end
section
variable {K:W.Frag} {a b:Addr} {H:Hp} {Q:VK}
theorem zW:uL K [.ref a] H Q=∃ns:List Int,SqL K H a (ns.map V.int)/\ns.length<64/\∀(l:Addr)(ns':List Int),H l=none->ns'.Perm ns->ns'.Pairwise (·<=·)->Q (.ref l) (upd H l (.lst (ns'.map V.int))):=propext ⟨by rintro ⟨_,ns,e,q⟩;cases e;exact ⟨ns,q⟩,by rintro ⟨ns,q⟩;exact zAD a ns rfl q⟩
theorem IZ:IM K [.ref a] H Q=∃bs:List Bool,SqL K H a (bs.map V.bl)/\Q (.bl (bs.any id)) H:=propext ⟨by rintro ⟨_,ns,e,q⟩;cases e;exact ⟨ns,q⟩,by rintro ⟨ns,q⟩;exact zAD a ns rfl q⟩
theorem CS{y:V}:zD K (.ref a) [y] H Q=∃xs,SqL K H a xs/\bG y=true/\xs.all bG=true/\Q (.int (BU y xs)) H:=propext ⟨by rintro ⟨_,xs,_,e1,e2,q⟩;cases e1;cases e2;exact ⟨xs,q⟩,by rintro ⟨xs,q⟩;exact zAN a xs y rfl rfl q⟩
end
end L2
namespace L2
def Cx.blkZ(X:Cx)(z0:Str)(N':List Str)(scope:Scope)(b:Bk):Cx:=
 {prog:=X.prog,w:=X.w,K:=X.K,mg:=X.mg,base:=X.base,A:=X.A,N:=N',s₀:=b.s₂,H₀:=b.H₂,env:=compEnvC scope ((z0,b.C+1)::cR X.env.cells scope.names []) b.C X.env,outer:=X.stack,stack:=X.stack,ex:=b.fp,fn:=fun x=>x==z0,calm:=X.calm,pn:=[],xe:=fun _ _=>False}
theorem F7{X:Cx}{z0:Str}{N':List Str}{scope:Scope}{b:Bk}:(X.blkZ z0 N' scope b).K=X.K:=rfl
structure CompScZ(X:Cx)(z0:Str)(scope:Scope)(cns:List Str)(ci:List Nat):Prop where
 kind:scope.kind=.function
 names:∀y∈scope.names,y.2=.local->scope.names.lookup y.1=some .local
 free:∀y∈scope.names,y.2=.free->X.env.kindOf y.1=some .cell\/X.env.kindOf y.1=some .free
 cap:∀(j:Nat)x,cns[j]?=some x->∃i,ci[j]?=some i/\X.N[i]?=some x/\(x,NameKind.free)∈scope.names
 len:cns.length=ci.length
 noloc:∀y,(y,NameKind.free)∈scope.names->¬(relabel scope X.env).names.lookup y=some .local
 nofree:(z0,NameKind.free)∉scope.names
 seen:∀y,(relabel scope X.env).names.lookup y=some .cell\/(relabel scope X.env).names.lookup y=some .free->y=z0\/(y,NameKind.free)∈scope.names
 cells:∀n acc,cellsFrom n scope.names acc=(z0,n)::acc
 push:∀h,pushCells h scope.names=h.push {cls:=.type "cell",data:=.cell none}
section
variable {M:Model} {A:Around} {E:Value->Shared->Prop} {s:Shared}
theorem jk{scope:Scope}{globals:Addr}{closure:List (Str×Addr)}{qual:Str}{outer:Env}{z0:Str}{Q:Env->Shared->Prop}
  (hc:∀n acc,cellsFrom n scope.names acc=(z0,n)::acc) (hp:∀h,pushCells h scope.names=h.push {cls:=.type "cell",data:=.cell none})
  (hQ:Q {scope:=scope,locals:=s.heap.objs.size,globals:=globals,cells:=(z0,s.heap.objs.size+1)::closure,qual:=qual,func:=none,code:=outer.code,frame:=outer.frame,builtins:=outer.builtins}
   {s with heap:=(s.heap.push {cls:=.type "dict",data:=.dict #[]}).push {cls:=.type "cell",data:=.cell none}}) :
  wpAny M A (newFunctionEnv scope globals closure [] qual none .none (some outer)) Q E s:=by
 simp only [newFunctionEnv,Option.isSome_some,if_true];refine zq2 (wpAny_alloc ?_);refine zq2 (wpAny_layCells _ (fun name kind cells=>by cases hkc:kind==NameKind.cell<;>simp [hkc]) _ _ _ _ ?_);rw [hc,hp,show ({s with heap:=s.heap.push {cls:=.type "dict",data:=.dict #[]}}:Shared).heap.objs.size=s.heap.objs.size+1 from kU ..];refine zq2 ?_;rw [List.forIn_nil];exact zq4 (zq4 hQ)
end
theorem rB{X:Cx}{elt iter tgt:Expr}{ifs:List Expr}{pos:Pos}{scope:Scope}{z0:Str}{g:Bk->TG}{tt:Bk->TT}{te:Bk->TE}{tns cns:List Str}{ci:List Nat}{RR:Value->Addr->Result->Shared->Prop}{E:Value->Shared->Prop}
  {pins:List (Addr×Obj)} {σ:St} {H2:Hp} {s2:Shared} {it:Addr} {fp:List Addr} {tn:Nat->Heap->Prop} {J:It} {Q:Addr->Hp->Prop}
  (hc:X.calm=true) (S:CompScZ X z0 scope cns ci)
  (hg:∀bk:Bk,PG (X.blkZ z0 (".0"::(tns++cns)) scope bk) tgt (g bk))
  (ht:∀bk:Bk,vM (X.blkZ z0 (".0"::(tns++cns)) scope bk) ifs (tt bk))
  (he:∀bk:Bk,PE (X.blkZ z0 (".0"::(tns++cns)) scope bk) elt (te bk))
  (I2:Inv X pins σ H2 s2) (T:kM X.prog X.w X.K tgt J fp it tn) (st2:tn 0 s2.heap) (f2:∀b∈fp,jh X pins H2 b)
  (hcw:∀acc,H2 acc=none->∀bk:Bk,cv J (g bk) (tt bk) (te bk) tns.length ci σ acc (Q acc) (upd H2 acc (.lst [])))
  (fin:∀D C s5 H4 m,Inv X pins σ H4 s5->s5.heap.Ns C m->jh X pins H4 C->Q D H4->RR (.ref D) C (.ok .next) s5) :
  wpAny (model X.prog X.w) X.A (newList []) (fun acc s₃=>wpAny (model X.prog X.w) X.A (newFunctionEnv scope X.env.globals (cR X.env.cells scope.names []) [] X.env.qual none .none (some X.env)) (fun cenv s₄=>codeAny (model X.prog X.w) X.A (.compStart (.ListComp elt [⟨tgt,iter,ifs,0⟩] scope pos) 0 (.ref it) acc {cenv with scope:=relabel scope X.env}) (RR acc cenv.locals) s₄) E s₃) E s2:=by
 have hfc:∀y∈scope.names,y.2=.free->∃c,X.env.cells.lookup y.1=some c:=fun y hy hk=>I2.ok.has _ (S.free y hy hk);have hsub:∀y c,(cR X.env.cells scope.names []).lookup y=some c->X.env.cells.lookup y=some c:=gO hfc (fun y c e=>by simp at e);refine wpAny_newObj_type (jk S.cells S.push ?_);dsimp only;generalize hH2:s2.heap.push {cls:=.type "list",dict:=none,data:=.seq ([]:List Value).toArray}=G2;have hCz:G2.objs.size=s2.heap.objs.size+1:=by rw [<- hH2,kU]
 have hns₁:((G2.push {cls:=.type "dict",data:=.dict #[]}).push {cls:=.type "cell",data:=.cell none}).Ns G2.objs.size (fun _=>none):=(Heap.Ns.new G2 (.type "dict")).keeps fun b o e=>cc _ e;have hcl₁:((G2.push {cls:=.type "dict",data:=.dict #[]}).push {cls:=.type "cell",data:=.cell none}).IsCell (G2.objs.size+1) none:=by refine zn ({cls:=.type "cell",data:=.cell none}) ?_ rfl;have:=du (G2.push {cls:=.type "dict",data:=.dict #[]}) (o:={cls:=.type "cell",data:=.cell none}) rfl;rwa [kU] at this
 have keep₁:∀b o,G2.get? b=some o->((G2.push {cls:=.type "dict",data:=.dict #[]}).push {cls:=.type "cell",data:=.cell none}).get? b=some o:=fun b o e=>cc _ (cc _ e);have hsz₁:((G2.push {cls:=.type "dict",data:=.dict #[]}).push {cls:=.type "cell",data:=.cell none}).objs.size=G2.objs.size+2:=by rw [kU,kU]
 generalize hh₁:(G2.push {cls:=.type "dict",data:=.dict #[]}).push {cls:=.type "cell",data:=.cell none}=h₁ at hns₁ hcl₁ keep₁ hsz₁ ⊢;have hDC:s2.heap.objs.size≠G2.objs.size:=by rw [hCz];exact cF (Bt _)
 have below:∀b,b<s2.heap.objs.size->b≠G2.objs.size:=fun b hb=>by omega
 have old:∀b o,s2.heap.get? b=some o->h₁.get? b=some o:=fun b o e=>keep₁ b o (hH2 ▸ cc _ e);have hacc:h₁.get? s2.heap.objs.size=some {cls:=.type "list",dict:=none,data:=.seq ([]:List Value).toArray}:=keep₁ _ _ (hH2 ▸ du _ rfl);have hnD:H2 s2.heap.objs.size=none:=I2.hok.fresh (zq5 _);have hnC:H2 G2.objs.size=none:=I2.hok.fresh Jlk;have hnE:H2 (G2.objs.size+1)=none:=I2.hok.fresh Jlk;obtain ⟨W,⟨m0,w0⟩,turn⟩:=hcw s2.heap.objs.size hnD ⟨G2.objs.size,fp,s2,H2⟩;have nlt:∀{b:Addr} {o:Obj},s2.heap.get? b=some o->b≠s2.heap.objs.size:=fun q=>cF (bT q);have fpl:∀b∈fp,b<s2.heap.objs.size:=fun b hb=>by obtain ⟨o,e,_⟩:=T.obj _ _ st2 b hb;exact bT e
 have clt:∀y c,(cR X.env.cells scope.names []).lookup y=some c->c<s2.heap.objs.size:=fun y c e=>by obtain ⟨v,q⟩:=I2.cell y c (hsub y c e);exact q.lt
 have split:∀y c,((z0,G2.objs.size+1)::cR X.env.cells scope.names []).lookup y=some c->(y=z0/\c=G2.objs.size+1)\/(y≠z0/\(cR X.env.cells scope.names []).lookup y=some c):=fun y c e=>by
  rw [qY] at e
  cases hb:y==z0 with
  |true=>rw [hb] at e;cases e;exact .inl ⟨by simpa using hb,rfl⟩
  |false=>rw [hb] at e;exact .inr ⟨by simpa using hb,e⟩
 have hasC:∀y,((relabel scope X.env).names.lookup y=some .cell\/(relabel scope X.env).names.lookup y=some .free)->∃c,((z0,G2.objs.size+1)::cR X.env.cells scope.names []).lookup y=some c:=fun y hk=>by
  rw [qY]
  cases hb:y==z0 with
  |true=>exact ⟨_,rfl⟩
  |false=>
   rcases S.seen y hk with z | z
   ·subst z;simp at hb
   ·exact dQ z
 have ok:(X.blkZ z0 (".0"::(tns++cns)) scope ⟨G2.objs.size,fp,s2,H2⟩).Ok:={
  mod:=I2.ok.mod
  kind:=S.kind
  glob:=I2.ok.glob
  blt:=I2.ok.blt
  above:=by show s2.heap.objs.size<=G2.objs.size;omega
  inj:=fun y z c e1 e2=>by
   rcases split y c e1 with ⟨a1,b1⟩ | ⟨a1,b1⟩<;>rcases split z c e2 with ⟨a2,b2⟩ | ⟨a2,b2⟩
   ·rw [a1,a2]
   ·subst b1;have h9:(G2.objs.size+1:Nat)<s2.heap.objs.size:=clt _ _ b2;omega
   ·subst b2;have h9:(G2.objs.size+1:Nat)<s2.heap.objs.size:=clt _ _ b1;omega
   ·exact I2.ok.inj y z c (hsub y c b1) (hsub z c b2)
  has:=fun y hk=>hasC y hk
  cab:=fun y c e e2=>by
   show s2.heap.objs.size<=c;have e':(y==z0)=true:=e;rcases split y c e2 with ⟨a1,b1⟩ | ⟨a1,b1⟩
   ·subst b1;omega
   ·exact absurd (by simpa using e') a1
  hd:=I2.ok.hd
  frames:=I2.ok.frames
  stk:=.inl rfl
  exf:=fun b hb=>⟨below b (fpl b hb),fun y c e=>by
   rcases split y c e with ⟨a1,b1⟩ | ⟨a1,b1⟩
   ·subst b1;intro h8;subst h8;have h9:(G2.objs.size+1:Nat)<s2.heap.objs.size:=fpl _ hb;omega
   ·exact (f2 b hb).2.2.2.2.1 y c (hsub y c b1)⟩
  bs:=I2.bs
  bsz:=dI I2.ok.bsz I2.sz
  noex:=fun b o e hb=>by
   rcases (f2 b hb).2.2.2.1 with z | z
   ·exact I2.ok.noex b o e z
   ·exact absurd (fj (bT e) (dI I2.ok.bsz z)) (nM _)
  exfs:=fun b hb hf=>by
   rcases zq12.mp (I2.stkSub b hf) with z | z
   ·exact (f2 b hb).2.1 z
   ·exact (f2 b hb).2.2.1 z
  funs:=I2.stack
  frf:=I2.stkFree}
 have hokD:HOk X.prog X.w (upd H2 s2.heap.objs.size (.lst [])) h₁:=I2.hok.laid old (zq5 _) ⟨cq _,zAD ([]) 0 .nil hacc⟩;have clD:∀y c,((z0,G2.objs.size+1)::cR X.env.cells scope.names []).lookup y=some c->c≠s2.heap.objs.size:=fun y c e=>by
  rcases split y c e with ⟨a1,b1⟩ | ⟨a1,b1⟩
  ·subst b1;omega
  ·exact cF (clt y c b1)
 have I3:Inv (X.blkZ z0 (".0"::(tns++cns)) scope ⟨G2.objs.size,fp,s2,H2⟩) [] (aI (List.replicate tns.length none) ci σ) (upd H2 s2.heap.objs.size (.lst [])) {s2 with heap:=h₁}:={
  ok:=ok
  os:=rfl
  bare:=I2.bare
  base:=⟨fun b o e n _ _=>old b o e,fun b o e n _ _=>⟨o.slots,old b o e⟩,fun b o e n _=>by rw [ao (nlt e)];exact n,fun b o e _=>⟨o,old b o e⟩,
   fun b ys e=>by rw [ao (am e hnD)];exact e,fun b o u e=>by rw [ao (am e hnD)];exact e,fun b ps e=>⟨#[],by rw [ao (am e hnD),Array.append_empty];exact e⟩⟩
  loc:=⟨_,hns₁,fun i y v e1 e2 e3=>by
   have e1':((".0":Str)::(tns++cns))[i]?=some y:=e1;unfold aI at e2
   cases i with
   |zero=>simp at e2
   |succ i=>
    rw [B1] at e1' e2
    by_cases hi:i<tns.length
    ·rw [jp (by simpa using hi),Bv,zq1 hi] at e2
     cases e2
    ·rw [iy Jlk] at e1';rw [iy (by simp;omega),vC] at e2;obtain ⟨q,hq,hN,hm⟩:=S.cap _ _ e1';rw [bE,hq] at e2;have e2':(σ[q]?).join=some v:=by simpa using e2
     have e4:σ[q]?=some (some v):=by
      cases z:σ[q]? with
      |none=>rw [z] at e2';cases e2'
      |some o=>rw [z] at e2';rw [show o=some v from e2']
     obtain ⟨m,hns,hl⟩:=I2.loc;have hvis:Vis X.env.scope y:=by
      rcases S.free (y,.free) hm rfl with z | z
      ·exact .inr (.inl z)
      ·exact .inr (.inr z)
     obtain ⟨u,ru,lk⟩:=hl q y v hN e4 hvis;refine zn u ru (.inr ?_);have hkk:X.env.kindOf y=some .cell\/X.env.kindOf y=some .free:=S.free (y,.free) hm rfl;have hyz:y≠z0:=fun e=>S.nofree (e ▸ hm);rcases lk with ⟨k1,_⟩ | ⟨_,c,hc1,hc2⟩
     ·rcases hkk with z | z<;>(rw [k1] at z;cases z)
     ·obtain ⟨c',hc'⟩:=dQ (cells:=X.env.cells) (acc:=[]) hm;have ecc:c'=c:=by have:=hsub y c' hc';rw [hc1] at this;cases this;rfl
      subst ecc;have e3':Vis (relabel scope X.env) y:=e3;refine ⟨?_,zn c' ?_ ?_⟩
      ·rcases e3' with z | z | z
       ·exfalso;exact S.noloc y hm z
       ·exact .inl z
       ·exact .inr z
      ·show ((z0,G2.objs.size+1)::cR X.env.cells scope.names []).lookup y=some c';rw [qY,beq_eq_false_iff_ne.mpr hyz];exact hc'
      ·exact hc2.keeps old⟩
  cell:=fun y c e=>by
   rcases split y c e with ⟨a1,b1⟩ | ⟨a1,b1⟩
   ·subst b1;exact ⟨_,hcl₁⟩
   ·obtain ⟨v,q⟩:=I2.cell y c (hsub y c b1);exact ⟨v,q.keeps old⟩
  free:=by show upd H2 s2.heap.objs.size (.lst []) G2.objs.size=none;rw [ao (Ne.symm hDC)];exact hnC
  freeC:=fun y c e=>by
   rw [ao (clD y c e)];rcases split y c e with ⟨a1,b1⟩ | ⟨a1,b1⟩
   ·subst b1;exact hnE
   ·exact I2.freeC y c (hsub y c b1)
  pin:=fun p hp=>by have hp':p∈([]:List (Addr×Obj))++[]:=hp;simp at hp'
  hok:=hokD
  len:=by show (aI _ ci σ).length=((".0":Str)::(tns++cns)).length;unfold aI;simp [S.len]}
 have st3:tn 0 h₁:=T.keep _ _ _ st2 fun b _ o e=>old b o e;have fr3:∀b∈fp,upd H2 s2.heap.objs.size (.lst []) b=none:=fun b hb=>by rw [ao (cF (fpl b hb))];exact (f2 b hb).1
 have stat:∀{H':Hp},(∀b∈fp,H' b=none)->∀b∈fp,jh (X.blkZ z0 (".0"::(tns++cns)) scope ⟨G2.objs.size,fp,s2,H2⟩) [] H' b:=fun hn b hb=>zAQ (hn b hb) (below b (fpl b hb)) (ok.exfs b hb) (.inl hb) (fun y c e=>(ok.exf b hb).2 y c e) (fun p hp=>by have hp':p∈([]:List (Addr×Obj))++[]:=hp;simp at hp')
 have loop:∀s₃:Shared,s₃={s2 with heap:=h₁}->
   codeAny (model X.prog X.w) X.A (.compLoop (.ListComp elt [⟨tgt,iter,ifs,0⟩] scope pos) 0 (.ref it) (.ref s2.heap.objs.size) (compEnvC scope ((z0,G2.objs.size+1)::cR X.env.cells scope.names []) G2.objs.size X.env))
    (RR (.ref s2.heap.objs.size) G2.objs.size) s₃:=by
  rintro s₃ rfl;refine gR (fun n s'=>∃(i:Nat)(os:List (Option V)) (ys:List V) (H':Hp),os.length=tns.length/\Inv (X.blkZ z0 (".0"::(tns++cns)) scope ⟨G2.objs.size,fp,s2,H2⟩) [] (aI os ci σ) H' s'/\tn i s'.heap/\(∀b∈fp,H' b=none)/\W i n ys H') ?_ m0 (zAM 0 _ ([]) _ Jll I3 st3 fr3 w0);rintro n s4 ⟨i,os,ys,H4,hos,I4,st4,fr4,w4⟩;rcases turn i n ys H4 w4 with ⟨stop,q⟩ | ⟨go,N,hN,step⟩
  ·refine thn (T.done (X.blkZ z0 (".0"::(tns++cns)) scope ⟨G2.objs.size,fp,s2,H2⟩) rfl rfl rfl hc i [] s4 _ H4 (fun _ _=>False) I4 (stat fr4) st4 stop) fun r s5 ⟨hr,I5⟩=>?_;subst hr;obtain ⟨m,hm,_⟩:=I5.loc;have fC:H4 G2.objs.size=none:=I5.free;have ub:Un (frs X.stack) fp H2 H4 s2.heap s5.heap:=I5.base;have IX:Inv X pins σ H4 s5:=I2.call' (s':=s5) (show s5.os=s2.os from I5.os) ub I5.hok I5.bare fun b hb=>zAF (f2 b hb).2.2.2.1 (f2 b hb).2.1 (f2 b hb).2.2.2.2.1 (f2 b hb).2.2.2.2.2
   exact fin _ _ s5 H4 m IX hm (I2.fpOk Jlk fC) q
  ·refine thn (T.item (X.blkZ z0 (".0"::(tns++cns)) scope ⟨G2.objs.size,fp,s2,H2⟩) rfl rfl rfl hc i [] s4 _ H4 (fun _ _=>False) I4 (stat fr4) st4 go) fun r s5 ⟨u,hr,h5⟩=>?_;subst hr;refine thn h5 fun _ s6 hhx=>?_;obtain ⟨y,H6,I6,r6,y6,st6,fr6⟩:=hhx;have I6':=I6.pinned (stat fr6) (T.obj _ _ st6);refine thn (hg _ _ s6 _ H6 y u _ I6' r6 (step y H6 os hos y6)) fun _ s7 ⟨σ7,H7,I7,⟨os',hos',e7⟩,q7⟩=>?_;subst e7;have back:∀{H9:Hp} {s9:Shared},Inv (X.blkZ z0 (".0"::(tns++cns)) scope ⟨G2.objs.size,fp,s2,H2⟩) ([]++gI fp s6.heap) (aI os' ci σ) H9 s9->tn (i+1) s9.heap/\∀b∈fp,H9 b=none:=fun {H9 s9} I9=>⟨T.keep _ _ _ st6 fun b hb ob e=>(I9.pin (b,ob) (d5 _ (d5 _ (cL hb e)))).1,fun b hb=>by obtain ⟨ob,e,d⟩:=T.obj _ _ st6 b hb;exact (I9.pin (b,ob) (d5 _ (d5 _ (cL hb e)))).2.1⟩
   refine thn (ht _ _ s7 _ H7 _ I7 q7) fun b s8 hhx=>?_;obtain ⟨H8,I8,q8⟩:=hhx
   cases b with
   |false=>
    rw [zq0 bw] at q8 ⊢;obtain ⟨m',hm',w8⟩:=hN _ _ q8;exact zn m' hm' (zAM (i+1) os' ys _ hos' I8.unpinned (back I8).1 (back I8).2 w8)
   |true=>rw [zq1 rfl] at q8 ⊢;refine thn (he _ _ s8 _ H8 _ I8 q8) fun zv s8 hhx=>?_;obtain ⟨z,H8,I8,rz,ha8,hl8,n8⟩:=hhx;obtain ⟨m',hm',w8⟩:=hN _ _ n8;refine thn (aZ (X:=X.blkZ z0 (".0"::(tns++cns)) scope ⟨G2.objs.size,fp,s2,H2⟩) _ s8 _ H8 (.ref s2.heap.objs.size) [z] (.ref s2.heap.objs.size) [zv] (fun _ H9=>H9=upd H8 s2.heap.objs.size (.lst (ys++[z]))) I8 rfl (.cons rz .nil) (zAL _ ys z rfl rfl ha8 hl8 rfl)) fun _ s9 hhx=>?_;obtain ⟨_,H9,I9,_,e9⟩:=hhx;subst e9;exact zn m' hm' (zAM (i+1) os' (ys++[z]) _ hos' I9.unpinned (back I9).1 (back I9).2 w8)
 exact codeAny_compStart_list (loop _ rfl) (T.self _ 0 _ _ _ st3 (loop _ rfl))
theorem zi{X:Cx}{elt iter tgt:Expr}{ifs:List Expr}{pos:Pos}{scope:Scope}{z0:Str}{wi:TI}{g:Bk->TG}{tt:Bk->TT}{te:Bk->TE}{tns cns:List Str}{ci:List Nat}(hc:X.calm=true)(S:CompScZ X z0 scope cns ci)(hi:PI X tgt iter wi)
  (hg:∀bk:Bk,PG (X.blkZ z0 (".0"::(tns++cns)) scope bk) tgt (g bk))
  (ht:∀bk:Bk,vM (X.blkZ z0 (".0"::(tns++cns)) scope bk) ifs (tt bk))
  (he:∀bk:Bk,PE (X.blkZ z0 (".0"::(tns++cns)) scope bk) elt (te bk))
  (hs:∀v,foldedSetIterable iter X.env v=pure v:=by intro _;rfl) :
  PE X (.ListComp elt [⟨tgt,iter,ifs,0⟩] scope pos) (kD wi g tt te tns.length ci):=by
 intro pins s σ H Q I h;have hfc:∀y∈scope.names,y.2=.free->∃c,X.env.cells.lookup y.1=some c:=fun y hy hk=>I.ok.has _ (S.free y hy hk);rw [eval_ListComp];refine wpAny_comprehension_free (use:=none) rfl hs (eE hfc) S.kind S.names (thn (hi pins s σ H _ I h) fun v s1 h1=>thn h1 fun itv s2 h2=>?_);obtain ⟨it,fp,tn,J,H2,rfl,I2,T,st2,f2,hcw⟩:=h2;refine rB (RR:=fun acc C=>compPost (model X.prog X.w) X.A X.xe none (EP X pins σ Q) acc C) hc S hg ht he I2 T st2 f2 hcw fun D C s5 H4 m I5 hm fo q=>?_;refine zn m hm fun h' hs'=>zAA (.ref D) H4 ?_ rfl q;exact I5.turned (t':=s5.toks) (it:=C) (fun b o hb e=>(hs'.2 b hb).trans e) fo.1 fo.2.1 fo.2.2.2.1 fo.2.2.2.2.1 fo.2.2.2.2.2
def Ik(osc:Scope)(N:List Str)(z0:Str)(scope:Scope)(cns:List Str)(ci:List Nat):Bool:=
 scope.kind==.function&&scope.names.all (fun y=>y.2 != .local || scope.names.lookup y.1==some .local) &&
 scope.names.all (fun y=>y.2 != .free || (osc.names.lookup y.1==some .cell || osc.names.lookup y.1==some .free))&&jG N scope.names cns ci &&
 scope.names.all (fun y=>y.2 != .free || (x8 scope osc).lookup y.1 != some .local)&&scope.names.all (fun y=>y.2 != .free || y.1 != z0)&&scope.names.all (fun y=>y.2 != .cell || y.1==z0)
theorem fV{osc:Scope}:∀{names:List (Str×NameKind)} {y:Str} {k:NameKind},(names.map fun (n,k)=>if (k==NameKind.free&&osc.kind==.function&&osc.names.lookup n==some .cell) then (n,NameKind.cell) else (n,k)).lookup y=some k->k=.cell\/k=.free->
  (y,NameKind.cell)∈names\/(y,NameKind.free)∈names
 | [],_,_,h,_=>by simp at h
 | (n,k0)::r,y,k,h,hk=>by
  rw [ce,qY] at h
  by_cases hf:(k0==NameKind.free&&osc.kind==.function&&osc.names.lookup n==some .cell)=true
  ·simp only [hf,if_true] at h;have k0f:k0=.free:=by have:=hf;simp only [Bool.and_eq_true] at this;simpa using this.1.1
   split at h
   ·next hq=>
    have:y=n:=by simpa using hq
    subst this;subst k0f;exact .inr cV
   ·exact (fV h hk).imp (zq9 _) (zq9 _)
  ·simp only [hf] at h
   split at h
   ·next hq=>
    have:y=n:=by simpa using hq
    subst this;have e:k0=k:=by simpa using h
    subst e;rcases hk with z | z
    ·subst z;exact .inl cV
    ·subst z;exact .inr cV
   ·exact (fV h hk).imp (zq9 _) (zq9 _)
theorem CompScZ.of{X:Cx}{z0:Str}{scope:Scope}{cns:List Str}{ci:List Nat}(h:Ik X.env.scope X.N z0 scope cns ci=true)
  (hc:∀n acc,cellsFrom n scope.names acc=(z0,n)::acc) (hp:∀h,pushCells h scope.names=h.push {cls:=.type "cell",data:=.cell none}):CompScZ X z0 scope cns ci:=by
 unfold Ik at h;rw [eG,eG,eG,eG,eG,eG] at h;obtain ⟨⟨⟨⟨⟨⟨h1,h3⟩,h4⟩,h5⟩,h6⟩,h7⟩,h8⟩:=h;obtain ⟨l,r⟩:=iC h5;refine ⟨by simpa using h1,fun y hy hk=>?_,fun y hy hk=>?_,r,l,fun y hy z=>?_,fun hm=>?_,fun y hy=>?_,hc,hp⟩
 ·have:=zq44.mp h3 y hy;rw [qZ] at this;rcases this with q | q
  ·exact absurd hk (by simpa using q)
  ·simpa using q
 ·have:=zq44.mp h4 y hy;rw [qZ,qZ] at this;rcases this with q | q | q
  ·exact absurd hk (by simpa using q)
  ·exact .inl (show X.env.scope.names.lookup y.1=_ by simpa using q)
  ·exact .inr (show X.env.scope.names.lookup y.1=_ by simpa using q)
 ·have:=zq44.mp h6 _ hy;rw [qZ] at this;rcases this with q | q
  ·simp at q
  ·have z':(x8 scope X.env.scope).lookup y=some .local:=z;have q':((x8 scope X.env.scope).lookup y != some .local)=true:=q;rw [z'] at q';exact absurd q' Jkm
 ·have:=zq44.mp h7 _ hm;simp at this
 ·have key:(y,NameKind.cell)∈scope.names\/(y,NameKind.free)∈scope.names:=by
   rcases hy with z | z
   ·exact fV (osc:=X.env.scope) z (.inl rfl)
   ·exact fV (osc:=X.env.scope) z (.inr rfl)
  rcases key with z | z
  ·have:=zq44.mp h8 _ z
   left;simpa using this
  ·exact .inr z
theorem xm{X:Cx}{elt iter tgt:Expr}{ifs:List Expr}{pos:Pos}{scope:Scope}{z0:Str}{wi:TI}{g:Bk->TG}{tt:Bk->TT}{te:Bk->TE}{tns cns:List Str}{ci:List Nat}(hc:X.calm=true)(S:CompScZ X z0 scope cns ci)(hi:XI X tgt iter wi)
  (hg:∀bk:Bk,XG (X.blkZ z0 (".0"::(tns++cns)) scope bk) tgt (g bk))
  (ht:∀bk:Bk,xF (X.blkZ z0 (".0"::(tns++cns)) scope bk) ifs (tt bk))
  (he:∀bk:Bk,XE (X.blkZ z0 (".0"::(tns++cns)) scope bk) elt (te bk))
  (hs:∀v,foldedSetIterable iter X.env v=pure v:=by intro _;rfl) :
  XE X (.ListComp elt [⟨tgt,iter,ifs,0⟩] scope pos) (kD wi g tt te tns.length ci):=⟨zi hc S hi.h (fun bk=>(hg bk).h) (fun bk=>(ht bk).h) (fun bk=>(he bk).h) hs⟩
end L2
namespace L2
variable {a0 a1 a10 a11 a12 a13 a2 a3 a4 a5 a6 a7 a8 a9:Option V} {i:Int} {r:St} {x:V}
def Dd:Nat->St->Option V
 |0,o::_=>o
 |n+1,_::r=>Dd n r
 |_,[]=>none
theorem qm:∀{n:Nat} {σ:St} {v:V},Dd n σ=some v->σ[n]?=some (some v)
 |0,o::_,v,h=>by rw [show Dd 0 (o::_)=o from rfl] at h;rw [h];rfl
 |n+1,_::r,v,h=>by rw [B1];exact qm h
 |0,[],_,h=>by cases h
 |_+1,[],_,h=>by cases h
def dY(i:Nat):TE:=fun σ H Q=>match Dd i σ with
 |some v=>Q v H
 |none=>False
theorem Dm{i:Nat}{σ:St}{H:Hp}{Q:VK}(h:dY i σ H Q):HW i σ H Q:=by
 unfold dY at h
 split at h
 ·next v e=>exact zn v (qm e) h
 ·exact h.elim
theorem yqv{X:Cx}(i:Nat){x:Str}{pos:Pos}(hv:Vis X.env.scope x)(hN:X.N[i]?=some x:=by rfl)(hd:(x==("__debug__":Str))=false:=by kernel_rfl) (hcd:(x==("__classdict__":Str))=false:=by kernel_rfl):XE X (.Name x pos) (dY i):=
 ⟨fun pins s σ H Q I h=>qv i hv hN hd hcd pins s σ H Q I (Dm h)⟩
def yI0(g:Int->Int->V):R2:=fun x y H Q=>match x,y with
 | .int i,.int j=>Q (g i j) H
 |_,_=>False
def yI(C:Int->Int->Prop)(g:Int->Int->V):R2:=fun x y H Q=>match x,y with
 | .int i,.int j=>C i j/\Q (g i j) H
 |_,_=>False
def yU(g:Int->V):V->Hp->VK->Prop:=fun x H Q=>match x with
 | .int i=>Q (g i) H
 |_=>False
theorem fI{g:Int->Int->V}{y:V}{H:Hp}{Q:VK}(h:yI0 g x y H Q):rI0 g x y H Q:=by
 unfold yI0 at h
 split at h
 ·exact zAA _ _ rfl rfl h
 ·exact h.elim
theorem mw{C:Int->Int->Prop}{g:Int->Int->V}{y:V}{H:Hp}{Q:VK}(h:yI C g x y H Q):rI C g x y H Q:=by
 unfold yI at h
 split at h
 ·exact zAA _ _ rfl rfl h
 ·exact h.elim
theorem JK{g:Int->V}{H:Hp}{Q:VK}(h:yU g x H Q):rU g x H Q:=by
 unfold yU at h
 split at h
 ·exact zn _ rfl h
 ·exact h.elim
section
variable {X:Cx}
theorem OpR.le{f:Value->Value->Sem Value}{r r':R2}(h:OpR X f r)(le:∀{x y:V} {H:Hp} {Q:VK},r' x y H Q->r x y H Q):OpR X f r':=fun pins s σ H x y v u Q I rx ry q=>h pins s σ H x y v u Q I rx ry (le q)
theorem bu:OpR X (binaryOp .Add) (yI0 fun i j=>.int (i+j)):=OpR.le FK fI
theorem g9:OpR X (binaryOp .Sub) (yI0 fun i j=>.int (i-j)):=OpR.le FV fI
theorem dc:OpR X (binaryOp .Mult) (yI CMul fun i j=>.int (i * j)):=OpR.le FQ mw
theorem aP:OpR X (binaryOp .Mod) (yI (fun _ j=>0<j) fun i j=>.int (i % j)):=OpR.le FN mw
theorem vA:OpR X (binaryOp .Pow) (yI vK fun i j=>.int (i ^ j.toNat)):=OpR.le FT mw
theorem eA:OpR X (binaryOp .LShift) (yI vK fun i j=>.int (i * 2 ^ j.toNat)):=OpR.le FU mw
theorem Dn:OpR X (binaryOp .BitAnd) (yI0 fun i j=>.int (Builtin.bitAnd i j)):=OpR.le FM fI
theorem Ic:OpR X (binaryOp .BitOr) (yI0 fun i j=>.int (Builtin.bitOr i j)):=OpR.le IK fI
theorem Do:OpR X (binaryOp .BitXor) (yI0 fun i j=>.int (Builtin.bitXor i j)):=OpR.le FY fI
theorem eF:OpR X (compareOp .Lt) (yI0 fun i j=>.bl (decide (i<j))):=OpR.le IJ fI
theorem iW:OpR X (compareOp .Gt) (yI0 fun i j=>.bl (decide (j<i))):=OpR.le II fI
theorem AS:OpR X (compareOp .GtE) (yI0 fun i j=>.bl (decide (j<=i))):=OpR.le IH fI
theorem aX:OpR X (binaryOp .FloorDiv) (yI CDivB fun i j=>.int (i / j)):=OpR.le z9 mw
theorem AT:OpR X (binaryOp .Mult) (yI IntMulOk fun i j=>.int (i * j)):=OpR.le Cy mw
theorem gc:UnR X (unaryOp .USub) (yU fun i=>.int (-i)):=fun pins s σ H x v Q I rx q=>HY pins s σ H x v Q I rx (JK q)
end
section
variable {H:Hp} {Q:VK}
theorem Ku{v:V}:dY 0 (some v::r) H Q=Q v H:=rfl
theorem Kv{v:V}:dY 1 (a0::some v::r) H Q=Q v H:=rfl
theorem Kw{v:V}:dY 2 (a0::a1::some v::r) H Q=Q v H:=rfl
theorem Kx{v:V}:dY 3 (a0::a1::a2::some v::r) H Q=Q v H:=rfl
theorem Ky{v:V}:dY 4 (a0::a1::a2::a3::some v::r) H Q=Q v H:=rfl
theorem Kz{v:V}:dY 5 (a0::a1::a2::a3::a4::some v::r) H Q=Q v H:=rfl
theorem KA{v:V}:dY 6 (a0::a1::a2::a3::a4::a5::some v::r) H Q=Q v H:=rfl
theorem KB{v:V}:dY 7 (a0::a1::a2::a3::a4::a5::a6::some v::r) H Q=Q v H:=rfl
theorem KC{v:V}:dY 8 (a0::a1::a2::a3::a4::a5::a6::a7::some v::r) H Q=Q v H:=rfl
theorem KD{v:V}:dY 9 (a0::a1::a2::a3::a4::a5::a6::a7::a8::some v::r) H Q=Q v H:=rfl
theorem JL{v:V}:dY 10 (a0::a1::a2::a3::a4::a5::a6::a7::a8::a9::some v::r) H Q=Q v H:=rfl
theorem JM{v:V}:dY 11 (a0::a1::a2::a3::a4::a5::a6::a7::a8::a9::a10::some v::r) H Q=Q v H:=rfl
theorem JN{v:V}:dY 12 (a0::a1::a2::a3::a4::a5::a6::a7::a8::a9::a10::a11::some v::r) H Q=Q v H:=rfl
theorem JO{v:V}:dY 13 (a0::a1::a2::a3::a4::a5::a6::a7::a8::a9::a10::a11::a12::some v::r) H Q=Q v H:=rfl
theorem JP{v:V}:dY 14 (a0::a1::a2::a3::a4::a5::a6::a7::a8::a9::a10::a11::a12::a13::some v::r) H Q=Q v H:=rfl
theorem JQ{v:V}{a14:Option V}:dY 15 (a0::a1::a2::a3::a4::a5::a6::a7::a8::a9::a10::a11::a12::a13::a14::some v::r) H Q=Q v H:=rfl
theorem JR{v:V}{a14:Option V}{a15:Option V}:dY 16 (a0::a1::a2::a3::a4::a5::a6::a7::a8::a9::a10::a11::a12::a13::a14::a15::some v::r) H Q=Q v H:=rfl
theorem Kt{g:Int->Int->V}{j:Int}:yI0 g (.int i) (.int j) H Q=Q (g i j) H:=rfl
theorem y_I{C:Int->Int->Prop}{g:Int->Int->V}{j:Int}:yI C g (.int i) (.int j) H Q=(C i j/\Q (g i j) H):=rfl
theorem y_U{g:Int->V}:yU g (.int i) H Q=Q (g i) H:=rfl
end
end L2
end
set_option maxHeartbeats 4000000
namespace FA
open PySem L2 PyProof.Rows
def cY(c k:Int):Int:=
 if 10 ^ Int.toNat 40<=c then (c-10 ^ Int.toNat 40) / (1 * 2 ^ (100 * (k % 60)).toNat) % (1 * 2 ^ Int.toNat 100)
 else ((c * c+3 * c+7919 * k+1) * 48271 % 2147483629 * ((c * c+3 * c+7919 * k+1) * 48271 % 2147483629)+7) % 2147483587
theorem pF(c k:Int):0<=cY c k:=by
 unfold cY
 split
 ·exact eI _ Jkm
 ·exact eI _ Jkm
theorem CDivB.pow{i:Int}{n:Nat}(h:n<9000):CDivB i (1 * 2 ^ n):=by rw [nO];refine ⟨rc Jkm,?_⟩;rw [Int.natAbs_pow];show (2 ^ n).log2<9000;rw [Nat.log2_two_pow];exact h
theorem Cd{c:Int}(h:Builtin.Int.intBits c<=2 ^ 20):IntMulOk c c:=mulOk_of_bits h h Jkm
def ltr(z:Int):Nat:=97+(z % 26).toNat
def K2(m pl k:Int)(j:Nat):Int:=m / 36+j * j+(if decide ((j:Int)=pl)=true then 1 else 0) * k
def nm(m pl k:Int):Nat->Str
 |0=>""
 |j+1=>nm m pl k j++⟨#[ltr (K2 m pl k j)]⟩
theorem yD(m pl k:Int):∀j,(nm m pl k j).length=j
 |0=>by show ("":Str).length=0;decide +kernel
 |j+1=>by rw [nm,strLen_append,yD m pl k j];rfl
def nms(m:Int)(n:Nat):List Str:=(List.range n).map fun (k:Nat)=>nm m (m / 6 % (1+m % 6)) k (1+m % 6).toNat
theorem yE(m:Int)(n:Nat):nms m (n+1)=nms m n++[nm m (m / 6 % (1+m % 6)) n (1+m % 6).toNat]:=by unfold nms;rw [qK,cg,B4]
def K0:List Str:=["tell","end","if","in","box","while","else","plus"]
def cM(c:Int):List Str:=if cY c 3 / 1000 % 5=1 then K0 else nms (cY c 3) 8
theorem IC:∀n:Nat,n<26->atI ("abcdefghijklmnopqrstuvwxyz":Str).cps.toList (n:Int)=some (97+n):=by decide +kernel
theorem Ft(z:Int):atI ("abcdefghijklmnopqrstuvwxyz":Str).cps.toList (z % 26)=some (ltr z):=by have h0:0<=z % 26:=eI _ Jkm;have h1:z % 26<26:=gk _ Jkm;unfold ltr;obtain ⟨n,hn⟩:=kW h0;rw [hn];exact IC n Jlk
def jl(m:Int)(ns:List Str):Str:=ns.getD (m % (ns.length:Int)).toNat ""
theorem ni{m:Int}{ns:List Str}(h:¬ns=[]):atI (ns.map V.str) (m % (ns.length:Int))=some (.str (jl m ns)):=by
 have hl:0<ns.length:=zq56.mpr h;have h0:0<=m % (ns.length:Int):=eI _ Jlk;have h1:m % (ns.length:Int)<ns.length:=gk _ Jlk;unfold jl;obtain ⟨n,hn⟩:=kW h0;rw [hn];refine bq ?_;have hn':n<ns.length:=by omega
 rw [bE,kK,cw,zq6 hn'];rfl
theorem i4{m:Int}{ns:List Str}(h:¬ns=[]):jl m ns∈ns:=by
 have hl:0<ns.length:=zq56.mpr h;have h0:0<=m % (ns.length:Int):=eI _ Jlk;have h1:m % (ns.length:Int)<ns.length:=gk _ Jlk;unfold jl;have hn':(m % (ns.length:Int)).toNat<ns.length:=by omega
 rw [cw,zq6 hn'];exact iz hn'
def mZ(m:Int)(ns:List Str)(w:Int):V:=if 0<m % 3/\¬ns=[] then .str (jl (m / 3) ns) else .int (m / 3 % (1 * 2 ^ w.toNat))
def opsL:List Str:=["plus","less","and","or","xor","below","same"]
def oI(m:Int)(ns:List Str)(w:Int):List V:=
 if m % 9=0\/ns=[] then [.str "tell",mZ (m / 16) ns w]
 else if m % 9=1 then [.str "copy",.str (jl (m / 7) ns),mZ (m / 16) ns w]
 else [.str (opsL.getD (m % 9-2).toNat ""),.str (jl (m / 7) ns),mZ (m / 16) ns w,mZ (m / 1009) ns w]
theorem Cz:∀n:Nat,n<7->atI [V.str "plus",V.str "less",V.str "and",V.str "or",V.str "xor",V.str "below",V.str "same"] (n:Int)=some (.str (opsL.getD n "")):=by decide +kernel
theorem G0{j:Int}(h0:0<=j)(h7:j<7):atI [V.str "plus",V.str "less",V.str "and",V.str "or",V.str "xor",V.str "below",V.str "same"] j=some (.str (opsL.getD j.toNat "")):=by obtain ⟨n,rfl⟩:=kW h0;rw [kK];exact Cz n (Int.ofNat_lt.mp h7)
end FA
namespace L2
open PySem PyProof.Rows
variable {H H':Hp}
theorem oX{A:Around}{k n:Nat}(h:n<=64)(hr:Room k A):A.units+n<cLine:=qX (vE h _) hr.units
theorem qC{α β:Type}{f:Nat->α->β}{xs:List α}{i:Nat}{x:α}(h:xs[i]?=some x):(xs.take (i+1)).mapIdx f=(xs.take i).mapIdx f++[f i x]:=by obtain ⟨hl,e⟩:=zq11.mp h;rw [dy hl,e,List.mapIdx_append,dw,xw (vB hl)];simp
theorem BW{xs:List V}{k:Int}(h:0<=k):gf xs none (some k)=xs.take k.toNat:=by
 obtain ⟨n,rfl⟩:=kW h;unfold gf;rw [HT.pX,HT.ny,B5,kK,qL]
 by_cases hn:n<=xs.length
 ·rw [xw hn]
 ·rw [B6 Jlk,dZ,rf Jlk]
theorem oF{xs:List V}{k l:Int}(h:0<=k)(h2:0<=l):gf xs (some k) (some l)=(xs.take l.toNat).drop k.toNat:=by
 obtain ⟨n,rfl⟩:=kW h;obtain ⟨m,rfl⟩:=kW h2;unfold gf;rw [HT.ny,HT.ny,kK,kK]
 by_cases hn:n<=xs.length
 ·rw [xw hn]
  by_cases hm:m<=xs.length
  ·rw [xw hm,List.drop_take]
  ·rw [B6 Jlk,rf Jll,rf Jlk]
 ·rw [B6 (show xs.length<=n by omega),ES (zq5 _),ES (by rw [dw];omega)];simp
section
variable {K:W.Frag} {te:TE} {ci:List Nat} {σ:St} {acc:Addr} {Q:Hp->Prop} {H1:Hp} {a:Addr} {xs:List V}
theorem eT{α:Type}(xs:List α):xs.filter (fun _=>true)=xs:=by simp
theorem BO(f:V->V)(hz:xs.length<=sizeLine)(hl:SqL K H1 a xs)(hacc:H1 acc=none)(hf:∀x∈xs,∀H Q',Same H1 H->Q' (f x) H->te (aI [some x] ci σ) H Q')
  (q:Q (upd H1 acc (.lst (xs.map f)))):cv (Itl K a) (bK 1) jo te 1 ci σ acc Q (upd H1 acc (.lst [])):=
 xZ (fun _=>true) f hz hl hacc (fun _ _ _ _ _ h=>h) (fun x hm H Q' s _ h=>hf x hm H Q' s h) (by rw [eT];exact q)
theorem BP(f:V->V)(hz:xs.length<=sizeLine)(hl:SqT K H1 a xs)(hacc:H1 acc=none)(hf:∀x∈xs,∀H Q',Same H1 H->Q' (f x) H->te (aI [some x] ci σ) H Q')
  (q:Q (upd H1 acc (.lst (xs.map f)))):cv (Itt K a) (bK 1) jo te 1 ci σ acc Q (upd H1 acc (.lst [])):=
 oy (fun _=>true) f hz hl hacc (fun _ _ _ _ _ h=>h) (fun x hm H Q' s _ h=>hf x hm H Q' s h) (by rw [eT];exact q)
end
structure TSame(H H':Hp):Prop where
 tup:∀b xs,H b=some (.tup xs)->H' b=some (.tup xs)
 frz:∀b o u,H b=some (.frz o u)->H' b=some (.frz o u)
theorem Same.ts(s:Same H H'):TSame H H':=⟨fun b xs e=>s b _ e,fun b o u e=>s b _ e⟩
theorem TSame.trans{H1 H2:Hp}(a:TSame H H1)(b:TSame H1 H2):TSame H H2:=⟨fun c xs e=>b.tup c xs (a.tup c xs e),fun c o u e=>b.frz c o u (a.frz c o u e)⟩
theorem TSame.updL{p:Addr}{ys:List V}{o:HO}(h:H p=some (.lst ys)):TSame H (upd H p o):=
 ⟨fun b xs e=>by rw [ao (bL e h (by intro z;cases z))];exact e,fun b o u e=>by rw [ao (bL e h (by intro z;cases z))];exact e⟩
theorem TSame.seqT{K:W.Frag}{a:Addr}{xs:List V}(e:TSame H H')(h:SqT K H a xs):SqT K H' a xs:=by
 rcases h with (h | ⟨o,h⟩) | h
 ·exact .inl (.inl (e.tup _ _ h))
 ·exact .inl (.inr ⟨o,e.frz _ _ _ h⟩)
 ·exact .inr h
def DeedV(K:W.Frag)(H:Hp)(x:V)(d:FB.Deed):Prop:=d.fine/\∃q,x=.ref q/\SqT K H q d.vs
theorem DeedV.ts{K:W.Frag}{x:V}{d:FB.Deed}(s:TSame H H')(h:DeedV K H x d):DeedV K H' x d:=⟨h.1,let ⟨q,e,z⟩:=h.2;(zn q e (s.seqT z))⟩
abbrev DeedsV (K:W.Frag) (H:Hp):List V->List FB.Deed->Prop:=Paired (DeedV K H)
theorem DeedsV.ts{K:W.Frag}{xs:List V}{ds:List FB.Deed}(s:TSame H H')(h:DeedsV K H xs ds):DeedsV K H' xs ds:=h.mono fun _ _ z=>z.ts s
end L2
namespace FA
open PySem L2
def pN(m:Int)(ns:List Str)(w:Int):FB.Opd:=if 0<m % 3/\¬ns=[] then .box (jl (m / 3) ns) else .word (m / 3 % (1 * 2 ^ w.toNat))
theorem sh{m:Int}{ns:List Str}{w:Int}:(pN m ns w).v=mZ m ns w:=by
 unfold pN mZ
 split<;>rfl
def eQ(m:Int)(ns:List Str)(w:Int):FB.Deed:=
 if m % 9=0\/ns=[] then .tell (pN (m / 16) ns w)
 else if m % 9=1 then .copy (jl (m / 7) ns) (pN (m / 16) ns w)
 else .op (opsL.getD (m % 9-2).toNat "") (jl (m / 7) ns) (pN (m / 16) ns w) (pN (m / 1009) ns w)
theorem w6{m:Int}{ns:List Str}{w:Int}:(eQ m ns w).vs=oI m ns w:=by
 unfold eQ oI
 split
 ·simp only [FB.Deed.vs,sh]
 ·split
  ·simp only [FB.Deed.vs,sh]
  ·simp only [FB.Deed.vs,sh]
theorem j4{m:Int}{ns:List Str}{w:Int}:(eQ m ns w).fine:=by
 unfold eQ
 split
 ·trivial
 ·split
  ·trivial
  ·show opsL.getD (m % 9-2).toNat ""∈FB.opsL;have h0:0<=m % 9:=eI _ Jkm;have h1:m % 9<9:=gk _ Jkm;have h:∀n:Nat,n<7->opsL.getD n ""∈FB.opsL:=by decide +kernel
   by_cases h2:m % 9-2<7
   ·exact h _ Jlk
   ·exact absurd h1 Jlk
end FA
namespace FL
open PySem L2 PyProof.Rows
def zZ(n:Nat):List Int:=(List.range n).map fun i:Nat=>(i:Int)
def tI(b:List Int):Prop:=b≠[]/\b.Pairwise (·<=·)
instance (b:List Int):Decidable (tI b):=by unfold tI;infer_instance
structure BD(n:Nat)(bss:List (List Int)):Prop where
 good:∀b∈bss,tI b
 perm:bss.flatten.Perm (zZ n)
instance (n:Nat) (bss:List (List Int)):Decidable (BD n bss):=decidable_of_iff ((∀b∈bss,tI b)/\bss.flatten.Perm (zZ n)) ⟨fun ⟨a,b⟩=>⟨a,b⟩,fun h=>⟨h.good,h.perm⟩⟩
theorem mB{xs ys:List Int}(hl:xs.length=ys.length):((List.range xs.length).all fun j=>decide (xs[j]?=ys[j]?))=decide (xs=ys):=by
 rw [iX,zq44,nP]
 constructor
 ·intro h;apply qM;intro j
  by_cases hj:j<xs.length
  ·exact of_decide_eq_true (h j (zq40.mpr hj))
  ·rw [kX Jlk,kX Jlk]
 ·rintro rfl j _;exact cf rfl
theorem mK{i j:Int}:eqV (.int i) (.int j)=decide (i=j):=by first | rfl | (unfold eqV;simp)
theorem uX{K:W.Frag}{H:Hp}{n:Nat}{a b:Addr}{xs ys:List Int}(ha:SqL K H a (xs.map V.int))(hb:SqL K H b (ys.map V.int)):Rq K H n (.ref a) (.ref b) (decide (xs=ys)):=by
 by_cases hl:xs.length=ys.length
 ·have z:=Rq.lists (n:=n) (fun j=>decide (xs[j]?=ys[j]?)) ha hb (by rw [zq3,zq3];exact hl) fun j x y hx hy=>by
   rw [bE] at hx hy;obtain ⟨i,hi,rfl⟩:=zq42.mp hx;obtain ⟨k,hk,rfl⟩:=zq42.mp hy;have e:decide (xs[j]?=ys[j]?)=eqV (.int i) (.int k):=by rw [hi,hk,mK];simp
   rw [e];exact .flat rfl rfl
  rw [zq3,mB hl] at z;exact z
 ·rw [bC (fun e=>hl (congrArg List.length e))];exact .lens ha hb (by rw [zq3,zq3];exact hl)
theorem mS{n k:Nat}(h:k<n):ixN n (k:Int)=some k:=by unfold ixN;rw [zq1 Jlk,zq1 Jlk,kK]
end FL
namespace FL
open PySem L2 PyProof.Rows
theorem Paired.mem{α β:Type}{F:α->β->Prop}:∀{l₁:List α} {l₂:List β},Paired F l₁ l₂->∀a∈l₁,∃b∈l₂,F a b
 |_,_,.nil=>by intro a h;cases h
 |_,_,.cons h t=>by
  intro a hm;rcases zq12.mp hm with e | e
  ·subst e;exact zn _ (cV ..) h
  ·obtain ⟨b,hb,hf⟩:=Paired.mem t a e;exact zn b (zq9 _ hb) hf
theorem Paired.imp{α β:Type}{F G:α->β->Prop}:∀{l₁:List α} {l₂:List β},Paired F l₁ l₂->(∀a∈l₁,∀b∈l₂,F a b->G a b)->Paired G l₁ l₂
 |_,_,.nil,_=>.nil
 |_,_,.cons h t,hi=>.cons (hi _ (cV ..) _ (cV ..) h) (Paired.imp t fun a ha b hb=>hi a (zq9 _ ha) b (zq9 _ hb))
theorem Paired.snoc{α β:Type}{F:α->β->Prop}{a:α}{b:β}(hf:F a b):∀{l₁:List α} {l₂:List β},Paired F l₁ l₂->Paired F (l₁++[a]) (l₂++[b])
 |_,_,.nil=>.cons hf .nil
 |_,_,.cons h t=>.cons h (Paired.snoc hf t)
theorem Paired.put{α β:Type}{F:α->β->Prop}{a:α}{b:β}(hf:F a b):∀{l₁:List α} {l₂:List β} (i:Nat),Paired F l₁ l₂->Paired F (l₁.set i a) (l₂.set i b)
 |_,_,_,.nil=>.nil
 |_,_,0,.cons h t=>.cons hf t
 |_,_,i+1,.cons h t=>.cons h (Paired.put hf i t)
theorem Paired.of_get{α β:Type}{F:α->β->Prop}:∀{l₁:List α} {l₂:List β},l₁.length=l₂.length->(∀(i:Nat)a b,l₁[i]?=some a->l₂[i]?=some b->F a b)->Paired F l₁ l₂
 | [],[],_,_=>.nil
 | [],_::_,h,_=>by simp at h
 |_::_,[],h,_=>by simp at h
 |a::l₁,b::l₂,h,f=>.cons (f 0 a b rfl rfl) (Paired.of_get (by simpa using h) fun i x y hx hy=>f (i+1) x y hx hy)
section
variable {K:W.Frag} {te:TE} {ci:List Nat} {σ:L2.St} {acc:Addr} {Q:Hp->Prop} {H1:Hp}
end
section
variable {K:W.Frag} {H:Hp}
end
end FL
namespace L2
open PySem PySem.Spec PyProof.Rows
section
variable {K:W.Frag} {tt:TT} {te:TE} {ci:List Nat} {σ:St} {acc:Addr} {Q:Hp->Prop} {H1:Hp} {a:Addr} {xs:List V}
theorem oA(p:V->Bool)(f:V->V)(hz:xs.length<=sizeLine)(hl:SqL K H1 a xs)(hacc:H1 acc=none)
  (hp:∀x∈xs,∀H Q',Same H1 H->(∀H',Same H H'->Q' (p x) H')->tt (aI [some x] ci σ) H Q') (hf:∀x∈xs,∀H Q',Same H1 H->p x=true->(∀H',Same H H'->Q' (f x) H')->te (aI [some x] ci σ) H Q')
  (q:∀H,Same H1 H->H acc=some (.lst ((xs.filter p).map f))->Q H):cv (Itl K a) (bK 1) tt te 1 ci σ acc Q (upd H1 acc (.lst [])):=by
 refine d6 (fun i ys H=>ys=((xs.take i).filter p).map f/\Same H1 H/\H acc=some (.lst ys)) (zAB Jll (Same.upd hacc) ac) (fun i ys H _ h=>h.2.1.seq hl) ?_ ?_
 ·rintro i x ys H os hi ho ⟨rfl,sm,ha⟩;have hm:=bD hi;have e:(aI os ci σ).set 1 (some x)=aI [some x] ci σ:=by
   match os,ho with
   | [o],_=>rfl
  show (∃os',os'.length=1/\(aI os ci σ).set 1 (some x)=aI os' ci σ)/\tt ((aI os ci σ).set 1 (some x)) H _;rw [e];refine ⟨zn ([some x]) rfl rfl,hp x hm _ _ sm fun H2 s2=>?_⟩
  cases hb:p x with
  |true=>
   rw [zq1 rfl];refine hf x hm _ _ (sm.trans s2) hb fun H3 s3=>zAI (s3 _ _ (s2 _ _ ha)) (oS hi hz) ?_ (((sm.trans s2).trans s3).updM hacc) ac
   rw [cJ hi,zq1 hb]
  |false=>rw [zq0 bw];refine zAB ?_ (sm.trans s2) (s2 _ _ ha);rw [cJ hi,zq0 (by rw [hb];exact bw),ix]
 ·rintro ys H ⟨rfl,sm,ha⟩;rw [dZ] at ha;exact q H sm ha
theorem eh(p:Nat->Bool)(f:Nat->V)(i:Nat):((List.range (i+1)).filter p).map f=((List.range i).filter p).map f++(if p i=true then [f i] else []):=by
 rw [qK,vF,cg];congr 1
 cases hb:p i<;>simp [hb]
theorem oB{n:Nat}(p:Nat->Bool)(f:Nat->V)(hz:n<=sizeLine)(hacc:H1 acc=none)
  (hp:∀i:Nat,i<n->∀H Q',Same H1 H->(∀H',Same H H'->Q' (p i) H')->tt (aI [some (.int (i:Int))] ci σ) H Q') (hf:∀i:Nat,i<n->∀H Q',Same H1 H->p i=true->(∀H',Same H H'->Q' (f i) H')->te (aI [some (.int (i:Int))] ci σ) H Q')
  (q:∀H,Same H1 H->H acc=some (.lst (((List.range n).filter p).map f))->Q H):cv (Itr 0 n) (bK 1) tt te 1 ci σ acc Q (upd H1 acc (.lst [])):=by
 refine oz (fun i ys H=>ys=((List.range i).filter p).map f/\Same H1 H/\H acc=some (.lst ys)) (zAB Jll (Same.upd hacc) ac) ?_ ?_
 ·rintro i ys H os hi ho ⟨rfl,sm,ha⟩;rw [show (0:Int)+(i:Int)=(i:Int) by omega];have e:(aI os ci σ).set 1 (some (.int (i:Int)))=aI [some (.int (i:Int))] ci σ:=by
   match os,ho with
   | [o],_=>rfl
  show (∃os',os'.length=1/\(aI os ci σ).set 1 (some (.int (i:Int)))=aI os' ci σ)/\tt ((aI os ci σ).set 1 (some (.int (i:Int)))) H _;rw [e];refine ⟨zn ([some (.int (i:Int))]) rfl rfl,hp i hi _ _ sm fun H2 s2=>?_⟩;have hl:(((List.range i).filter p).map f).length<sizeLine:=by rw [zq3];have:=qJ p (List.range i);rw [eg] at this;omega
  cases hb:p i with
  |true=>
   rw [zq1 rfl];refine hf i hi _ _ (sm.trans s2) hb fun H3 s3=>zAI (s3 _ _ (s2 _ _ ha)) hl ?_ (((sm.trans s2).trans s3).updM hacc) ac
   rw [eh,zq1 hb]
  |false=>rw [zq0 bw];refine zAB ?_ (sm.trans s2) (s2 _ _ ha);rw [eh,zq0 (by rw [hb];exact bw),ix]
 ·rintro ys H ⟨rfl,sm,ha⟩;exact q H sm ha
end
end L2
namespace FD
open PySem L2 PyProof.Rows
end FD
namespace L2
open PySem PyProof.Rows
end L2
namespace FG
open PySem L2 PyProof.Rows
variable {kvs:List (Key×V)}
structure IntD(kvs:List (Key×V)):Prop where
 nd:(kvs.map (·.1)).Nodup
 nums:∀kv∈kvs,∃i,kv.2=.int i
theorem IntD.nil:IntD []:=⟨BB,fun kv h=>by cases h⟩
theorem IntD.put(h:IntD kvs)(k:Key)(i:Int):IntD (bo kvs k (.int i)):=by
 by_cases hk:(kvs.any fun kv=>decide (kv.1=k))=true
 ·have e:bo kvs k (.int i)=kvs.map (fun kv=>if kv.1=k then (kv.1,.int i) else kv):=by unfold bo;rw [zq1 hk]
  rw [e];refine ⟨?_,fun kv hm=>?_⟩
  ·have e2:(kvs.map (fun kv=>if kv.1=k then (kv.1,V.int i) else kv)).map (·.1)=kvs.map (·.1):=by
    rw [fJ];refine tF fun kv _=>?_;show (if kv.1=k then (kv.1,V.int i) else kv).1=kv.1
    split<;>rfl
   rw [e2];exact h.nd
  ·obtain ⟨kv',hm',rfl⟩:=zq36.mp hm;show ∃j,(if kv'.1=k then (kv'.1,V.int i) else kv').2=.int j
   split
   ·exact ⟨i,rfl⟩
   ·exact h.nums kv' hm'
 ·have hn:bh kvs k=none:=by have:=cI k kvs;rw [Bool.not_eq_true] at hk;rw [hk] at this;exact zq162.mp (by rw [zq162];cases e:bh kvs k with | none=>rfl | some v=>rw [e] at this;cases this)
  refine ⟨Ce _ h.nd hn,fun kv hm=>?_⟩;rw [pT _ hn] at hm;rcases zq18.mp hm with z | z
  ·exact h.nums kv z
  ·rw [zq10.mp z];exact ⟨i,rfl⟩
theorem IntD.flat(h:IntD kvs):kvs.all (fun kv=>bG kv.2)=true:=by rw [zq44];intro kv hm;obtain ⟨i,e⟩:=h.nums kv hm;rw [e];rfl
theorem IntD.self(h:IntD kvs):w9 kvs kvs=true:=we h.nd h.flat
def kG(kvs:List (Key×V))(n:Str):Option Int:=match bh kvs (.inr n) with
 |some (.int i)=>some i
 |_=>none
theorem il{k n:Str}{i:Int}:kG (bo kvs (.inr k) (.int i)) n=if n=k then some i else kG kvs n:=by
 unfold kG;rw [qF]
 by_cases h:n=k
 ·subst h;rw [zq1 rfl,zq1 rfl]
 ·rw [zq0 (fun z=>h (Sum.inr.inj z)),zq0 h]
end FG
namespace FS
open PySem L2 FB PyProof.Rows
inductive Stm where
 |deed (d:Deed)
 |ifs (n:Str) (ones others:List Stm)
 |whl (n:Str) (rows:List Stm)
variable {H H':Hp} {f g:List Addr}
mutual
inductive StmV (K:W.Frag) (H:Hp):V->Stm->List Addr->Prop where
 |deed {q:Addr} {d:Deed}:d.fine->SqT K H q d.vs->StmV K H (.ref q) (.deed d) []
 |ifs {q a b:Addr} {n:Str} {xs ys:List V} {ones others:List Stm} {f g:List Addr}:SqT K H q [.str "if",.str n,.ref a,.ref b]->H a=some (.lst xs)->H b=some (.lst ys)->StmsV K H xs ones f->StmsV K H ys others g->
   StmV K H (.ref q) (.ifs n ones others) (a::b::(f++g))
 |whl {q a:Addr} {n:Str} {xs:List V} {rows:List Stm} {f:List Addr}:SqT K H q [.str "while",.str n,.ref a]->H a=some (.lst xs)->StmsV K H xs rows f->StmV K H (.ref q) (.whl n rows) (a::f)
inductive StmsV (K:W.Frag) (H:Hp):List V->List Stm->List Addr->Prop where
 |nil:StmsV K H [] [] []
 |cons {x:V} {s:Stm} {xs:List V} {ss:List Stm} {f g:List Addr}:StmV K H x s f->StmsV K H xs ss g->StmsV K H (x::xs) (s::ss) (f++g)
end
def Kept(fp:List Addr)(H H':Hp):Prop:=∀a∈fp,∀o,H a=some o->H' a=some o
theorem Kept.left(h:Kept (f++g) H H'):Kept f H H':=fun a ha=>h a (iu _ ha)
theorem Kept.right(h:Kept (f++g) H H'):Kept g H H':=fun a ha=>h a (d5 _ ha)
theorem Kept.tail{x:Addr}(h:Kept (x::g) H H'):Kept g H H':=fun a ha=>h a (zq9 _ ha)
theorem Kept.of{fp:List Addr}(s:Same H H'):Kept fp H H':=fun a _ o e=>s a o e
theorem Kept.upd{fp:List Addr}{p:Addr}{o:HO}(h:p∉fp):Kept fp H (upd H p o):=fun a ha u e=>by rw [ao (fun z=>h (by rw [<- z];exact ha))];exact e
variable {K:W.Frag}
mutual
theorem StmV.keep(t:TSame H H'):∀{x:V} {s:Stm} {f:List Addr},StmV K H x s f->Kept f H H'->StmV K H' x s f
 |_,_,_,.deed hf h,_=>.deed hf (t.seqT h)
 |_,_,_,.ifs (a:=a) (b:=b) h ha hb h1 h2,k=>.ifs (t.seqT h) (k a Jll _ ha) (k b Jll _ hb) (StmsV.keep t h1 k.tail.tail.left) (StmsV.keep t h2 k.tail.tail.right)
 |_,_,_,.whl (a:=a) h ha h1,k=>.whl (t.seqT h) (k a Jll _ ha) (StmsV.keep t h1 k.tail)
theorem StmsV.keep(t:TSame H H'):∀{xs:List V} {ss:List Stm} {f:List Addr},StmsV K H xs ss f->Kept f H H'->StmsV K H' xs ss f
 |_,_,_,.nil,_=>.nil
 |_,_,_,.cons h1 h2,k=>.cons (StmV.keep t h1 k.left) (StmsV.keep t h2 k.right)
end
theorem StmsV.same{xs:List V}{ss:List Stm}(h:StmsV K H xs ss f)(s:Same H H'):StmsV K H' xs ss f:=h.keep s.ts (Kept.of s)
theorem StmV.same{x:V}{s:Stm}(h:StmV K H x s f)(sm:Same H H'):StmV K H' x s f:=h.keep sm.ts (Kept.of sm)
theorem StmsV.length:∀{xs:List V} {ss:List Stm} {f:List Addr},StmsV K H xs ss f->xs.length=ss.length
 |_,_,_,.nil=>rfl
 |_,_,_,.cons _ h=>by rw [cW,cW,StmsV.length h]
theorem StmsV.snoc{y:V}{r:Stm}(hy:StmV K H y r g):∀{xs:List V} {ss:List Stm} {f:List Addr},StmsV K H xs ss f->StmsV K H (xs++[y]) (ss++[r]) (f++g)
 |_,_,_,.nil=>by have:=StmsV.cons hy StmsV.nil;rw [ix] at this;exact this
 |_,_,_,.cons h1 h2=>by rw [xx];exact .cons h1 (StmsV.snoc hy h2)
mutual
theorem StmV.tracked:∀{x:V} {s:Stm} {f:List Addr},StmV K H x s f->∀a∈f,∃zs,H a=some (.lst zs)
 |_,_,_,.deed _ _,a,ha=>by cases ha
 |_,_,_,.ifs (f:=f) (g:=g) h ha hb h1 h2,c,hc=>by
  rcases zq12.mp hc with rfl | hc
  ·exact ⟨_,ha⟩
  rcases zq12.mp hc with rfl | hc
  ·exact ⟨_,hb⟩
  rcases zq18.mp hc with hc | hc
  ·exact StmsV.tracked h1 c hc
  ·exact StmsV.tracked h2 c hc
 |_,_,_,.whl h ha h1,c,hc=>by
  rcases zq12.mp hc with rfl | hc
  ·exact ⟨_,ha⟩
  ·exact StmsV.tracked h1 c hc
theorem StmsV.tracked:∀{xs:List V} {ss:List Stm} {f:List Addr},StmsV K H xs ss f->∀a∈f,∃zs,H a=some (.lst zs)
 |_,_,_,.nil,a,ha=>by cases ha
 |_,_,_,.cons h1 h2,a,ha=>by
  rcases zq18.mp ha with ha | ha
  ·exact StmV.tracked h1 a ha
  ·exact StmsV.tracked h2 a ha
end
theorem StmsV.get:∀{xs:List V} {ss:List Stm} {f:List Addr} {i:Nat} {x:V},StmsV K H xs ss f->xs[i]?=some x->∃s g,ss[i]?=some s/\StmV K H x s g/\∀a∈g,a∈f
 |_,_,_,_,_,.nil,e=>by simp at e
 |_,_,_,0,_,.cons h _,e=>by simp at e;subst e;exact zAA _ _ rfl h fun a ha=>iu _ ha
 |_,_,_,i+1,x,.cons _ t,e=>by obtain ⟨s,g,h1,h2,h3⟩:=StmsV.get (i:=i) (x:=x) t (by simpa using e);exact zAA s g (by simpa using h1) h2 fun a ha=>d5 _ (h3 a ha)
theorem lT{α:Type}{l₁ l₂:List α}(h1:l₁.Nodup)(h2:l₂.Nodup)(h:∀a∈l₁,a∉l₂):(l₁++l₂).Nodup:=by rw [zq75];exact zAB h1 h2 (fun a ha b hb e=>h a ha (by rw [e];exact hb))
end FS
namespace FP
open PySem L2 FB FS FA PyProof.Rows
variable {H:Hp}
inductive Kd where
 |all | iff | whl | els
 deriving DecidableEq
def Kd.str:Kd->Str
 | .all=>"all"
 | .iff=>"if"
 | .whl=>"while"
 | .els=>"else"
structure Ent where
 kind:Kd
 rows:List Stm
 name:Str
 ones:List Stm
def cy(e:Ent):Stm:=match e.kind with
 | .whl=>.whl e.name e.rows
 | .iff=>.ifs e.name e.rows []
 |_=>.ifs e.name e.ones e.rows
def Ent.add(e:Ent)(r:Stm):Ent:={e with rows:=e.rows++[r]}
def lO(r:Stm):List Ent->List Ent
 | []=>[]
 |e::es=>e.add r::es
def eP:List Ent->List Ent
 |e::e2::es=>e2.add (cy e)::es
 |es=>es
theorem bO{e e2:Ent}{es:List Ent}:(eP (e::e2::es)).length=es.length+1:=rfl
def bZ:List Ent->List Stm
 | []=>[]
 | [e]=>e.rows
 |e::e2::es=>bZ (e2.add (cy e)::es)
termination_by es=>es.length
def kd3(j:Int):Kd:=if j=1\/j=-2 then .whl else .iff
def start0:List Ent×Int:=([⟨.all,[],"",[]⟩],0)
variable {K:W.Frag}
def EntV(K:W.Frag)(H:Hp)(x:V)(e:Ent)(g:List Addr):Prop:=∃(q r o:Addr)(ys zs:List V)(fr fo:List Addr),x=.ref q/\SqT K H q [.str e.kind.str,.ref r,.str e.name,.ref o]/\H r=some (.lst ys)/\StmsV K H ys e.rows fr/\H o=some (.lst zs)/\StmsV K H zs e.ones fo/\g=r::o::(fr++fo)
theorem EntV.keep{H':Hp}{x:V}{e:Ent}{g:List Addr}(t:TSame H H')(h:EntV K H x e g)(k:Kept g H H'):EntV K H' x e g:=by obtain ⟨q,r,o,ys,zs,fr,fo,ex,hq,hr,h1,ho,h2,rfl⟩:=h;exact zBF q r o ys zs fr fo ex (t.seqT hq) (k r Jll _ hr) (h1.keep t k.tail.tail.left) (k o Jll _ ho) (h2.keep t k.tail.tail.right) rfl
inductive StkV (K:W.Frag) (H:Hp):List V->List Ent->List Addr->Prop where
 |nil:StkV K H [] [] []
 |snoc {xs:List V} {es:List Ent} {f g:List Addr} {x:V} {e:Ent}:StkV K H xs es f->EntV K H x e g->StkV K H (xs++[x]) (e::es) (g++f)
theorem StkV.keep{H':Hp}(t:TSame H H'):∀{xs:List V} {es:List Ent} {f:List Addr},StkV K H xs es f->Kept f H H'->StkV K H' xs es f
 |_,_,_,.nil,_=>.nil
 |_,_,_,.snoc h1 h2,k=>.snoc (StkV.keep t h1 k.right) (h2.keep t k.left)
theorem StkV.length:∀{xs:List V} {es:List Ent} {f:List Addr},StkV K H xs es f->xs.length=es.length
 |_,_,_,.nil=>rfl
 |_,_,_,.snoc h _=>by rw [zq7,cW,StkV.length h];rfl
theorem EntV.tracked{x:V}{e:Ent}{g:List Addr}(h:EntV K H x e g):∀a∈g,∃zs,H a=some (.lst zs):=by
 obtain ⟨q,r,o,ys,zs,fr,fo,ex,hq,hr,h1,ho,h2,rfl⟩:=h;intro a ha;rcases zq12.mp ha with rfl | ha
 ·exact ⟨_,hr⟩
 rcases zq12.mp ha with rfl | ha
 ·exact ⟨_,ho⟩
 rcases zq18.mp ha with ha | ha
 ·exact h1.tracked a ha
 ·exact h2.tracked a ha
theorem StkV.tracked:∀{xs:List V} {es:List Ent} {f:List Addr},StkV K H xs es f->∀a∈f,∃zs,H a=some (.lst zs)
 |_,_,_,.nil,a,ha=>by cases ha
 |_,_,_,.snoc h1 h2,a,ha=>by
  rcases zq18.mp ha with ha | ha
  ·exact h2.tracked a ha
  ·exact StkV.tracked h1 a ha
theorem StkV.inv{xs:List V}{e:Ent}{es:List Ent}{f:List Addr}(h:StkV K H xs (e::es) f):∃xs' x f' g,xs=xs'++[x]/\f=g++f'/\StkV K H xs' es f'/\EntV K H x e g:=by
 cases h with
 |snoc h1 h2=>exact zAU _ _ _ _ rfl rfl h1 h2
theorem fk{α:Type}{xs:List α}{x:α}:atI (xs++[x]) (-1)=some x:=by
 unfold atI ixN;rw [zq0 Jkm,zq1 (by simp;omega)];have e:(-1+((xs++[x]).length:Int)).toNat=xs.length:=by rw [zq7,bV];omega
 rw [e];simp
structure dz(K:W.Frag)(H0 H:Hp)(S:Addr)(es:List Ent)(B:Nat):Prop where
 same:Same H0 H
 at_:∃xs f,H S=some (.lst xs)/\StkV K H xs es f/\(S::f).Nodup/\∀a∈S::f,H0 a=none
 few:∀e∈es,e.rows.length<=B
theorem uI{H0 H:Hp}{S q r o:Addr}{xs zs:List V}{es:List Ent}{f fo:List Addr}{kind:Kd}{name:Str}{ones:List Stm}{B:Nat}(sm:Same H0 H)(hS:H S=some (.lst xs))(hK:StkV K H xs es f)(hr:H r=some (.lst []))(ho:H o=some (.lst zs))(hz:StmsV K H zs ones fo)
  (hq:SqT K H q [.str kind.str,.ref r,.str name,.ref o]) (nd:(S::((r::o::fo)++f)).Nodup) (fr:∀a∈S::((r::o::fo)++f),H0 a=none) (few:∀e∈es,e.rows.length<=B) :
  dz K H0 (upd H S (.lst (xs++[.ref q]))) S (⟨kind,[],name,ones⟩::es) B:=by
 have nS:=(zq34.mp nd).1;have tt:TSame H (upd H S (.lst (xs++[V.ref q]))):=TSame.updL hS;refine ⟨sm.updM (fr S Jll),zAE _ ((r::o::([]++fo))++f) ac (.snoc (hK.keep tt (Kept.upd fun z=>nS (by simp [z]))) (zBF q r o ([]) zs ([]) fo rfl (tt.seqT hq) ?_ .nil ?_ (hz.keep tt (Kept.upd fun z=>nS (by simp [z]))) rfl)) nd fr,fun e he=>?_⟩
 ·rw [ao (fun z=>nS (by rw [<- z];simp))];exact hr
 ·rw [ao (fun z=>nS (by rw [<- z];simp))];exact ho
 ·rcases zq12.mp he with z | z
  ·subst z;exact cq _
  ·exact few e z
theorem F5{H:Hp}{S:Addr}{xs:List V}{c:Prop}[Decidable c]{k:Int}{A B:Prop}(hx:SqL K H S xs)(hA:c->k<xs.length->A)(hB:¬(c/\k<xs.length)->B):
  if decide c=true then ∃ys,(SqL K H S ys\/SqT K H S ys)/\if decide (k<(ys.length:Int))=true then A else B else B:=by
 by_cases h:c
 ·rw [cf h,zq1 rfl];refine zn xs (.inl hx) ?_
  by_cases h2:k<(xs.length:Int)
  ·rw [cf h2,zq1 rfl];exact hA h h2
  ·rw [bC h2,zq0 bw];exact hB fun z=>h2 z.2
 ·rw [bC h,zq0 bw];exact hB fun z=>h z.1
theorem JV{H:Hp}{S T:Addr}{xs ts:List V}{c:Prop}[Decidable c]{k l:Int}{A B:Prop}(hx:SqL K H S xs)(ht:SqL K H T ts)(hA:c->(xs.length:Int)<k->l<ts.length->A)(hB:¬(c/\(xs.length:Int)<k/\l<ts.length)->B):
  if decide c=true then ∃ys,(SqL K H S ys\/SqT K H S ys)/\if decide ((ys.length:Int)<k)=true then ∃zs,(SqL K H T zs\/SqT K H T zs)/\if decide (l<(zs.length:Int))=true then A else B else B else B:=by
 by_cases h:c
 ·rw [cf h,zq1 rfl];refine zn xs (.inl hx) ?_
  by_cases h2:(xs.length:Int)<k
  ·rw [cf h2,zq1 rfl];refine zn ts (.inl ht) ?_
   by_cases h3:l<(ts.length:Int)
   ·rw [cf h3,zq1 rfl];exact hA h h2 h3
   ·rw [bC h3,zq0 bw];exact hB fun z=>h3 z.2.2
  ·rw [bC h2,zq0 bw];exact hB fun z=>h2 z.2.1
 ·rw [bC h,zq0 bw];exact hB fun z=>h z.1
theorem kd_if{k:Kd}:(k.str="if")↔k=.iff:=by cases k<;>decide +kernel
theorem xH{H:Hp}{S q:Addr}{xs:List V}{c:Prop}[Decidable c]{k:Kd}{r o:Addr}{n:Str}{A B:Hp->Prop}(hx:SqL K H S (xs++[.ref q]))(hq:SqT K H q [.str k.str,.ref r,.str n,.ref o])(hA:c->k=.iff->A H)(hB:¬(c/\k=.iff)->B H):
  if decide c=true then ∃xs v,SqL K H S xs/\atI xs (-1)=some v/\CN K v (V.int 0) H fun x H1=>rEq x (V.str "if") H1 fun x H'=>∃k,x=V.bl k/\if k=true then A H' else B H' else B H:=by
 by_cases h:c
 ·rw [cf h,zq1 rfl];refine zAA _ _ hx fk ?_;rw [DD];refine zAA _ _ hq rfl ?_;show xc (.str k.str) (.str "if")=true/\∃k_1,V.bl (decide (V.str k.str=V.str "if"))=V.bl k_1/\_;refine ⟨rfl,zn _ rfl ?_⟩
  by_cases hk:k=.iff
  ·rw [cf (congrArg V.str (kd_if.mpr hk)),zq1 rfl];exact hA h hk
  ·rw [bC (fun z=>hk (kd_if.mp (V.str.inj z))),zq0 bw];exact hB fun z=>hk z.2
 ·rw [bC h,zq0 bw];exact hB fun z=>h z.1
theorem Fm{j:Int}(h0:-2<=j)(h3:j<3):atI [V.str "if",V.str "while",V.str "if"] j=some (.str (kd3 j).str):=by
 have h:j=-2\/j=-1\/j=0\/j=1\/j=2:=by omega
 rcases h with rfl | rfl | rfl | rfl | rfl<;>rfl
end FP
namespace FS
open PySem L2 FB PyProof.Rows
variable {a b:List Stm}
theorem ng{f k:Str}(h:f∈opsL)(hk:opsL.contains k=false):¬f=k:=by rintro rfl;rw [List.contains_eq_mem,decide_eq_false_iff_not] at hk;exact hk h
theorem u7{K:W.Frag}{H:Hp}{q:Addr}{d:Deed}{k:Str}{Z:V->Hp->Prop}(hf:d.fine)(hq:SqT K H q d.vs)(h1:opsL.contains k=false)(h2:¬("tell":Str)=k) (h3:¬("copy":Str)=k) (h:Z (.bl false) H):∃xs v,SqT K H q xs/\atI xs 0=some v/\rEq v (.str k) H Z:=by
 cases d with
 |tell a=>exact zAE _ _ hq rfl rfl (by rw [bC (fun z=>h2 (V.str.inj z))];exact h)
 |copy n a=>exact zAE _ _ hq rfl rfl (by rw [bC (fun z=>h3 (V.str.inj z))];exact h)
 |op f n a b=>exact zAE _ _ hq rfl rfl (by rw [bC (fun z=>ng hf h1 (V.str.inj z))];exact h)
mutual
def Stm.deep:Stm->Nat
 | .deed _=>0
 | .ifs _ a b=>max (bF a) (bF b)+1
 | .whl _ a=>bF a+1
def bF:List Stm->Nat
 | []=>0
 |s::ss=>max s.deep (bF ss)
end
mutual
def Stm.many:Stm->Nat
 | .deed _=>1
 | .ifs _ a b=>aS a+aS b+1
 | .whl _ a=>aS a+1
def aS:List Stm->Nat
 | []=>0
 |s::ss=>s.many+aS ss
end
def Opd.good(ns:List Str)(w:Int):Opd->Prop
 | .box n=>n∈ns
 | .word i=>0<=i/\i<2 ^ w.toNat
def Deed.good(ns:List Str)(w:Int):Deed->Prop
 | .tell a=>Opd.good ns w a
 | .copy d a=>d∈ns/\Opd.good ns w a
 | .op f d a b=>f∈opsL/\d∈ns/\Opd.good ns w a/\Opd.good ns w b
mutual
def Stm.good(ns:List Str)(w:Int):Stm->Prop
 | .deed d=>Deed.good ns w d
 | .ifs n a b=>n∈ns/\cX ns w a/\cX ns w b
 | .whl n a=>n∈ns/\cX ns w a
def cX(ns:List Str)(w:Int):List Stm->Prop
 | []=>True
 |s::ss=>s.good ns w/\cX ns w ss
end
theorem yA(s:Stm):1<=s.many:=by cases s<;>simp [Stm.many]
theorem pA(ss:List Stm):ss.length<=aS ss:=by
 induction ss with
 |nil=>simp [aS]
 |cons s ss ih=>rw [aS,cW];have:=yA s;omega
theorem yz{s:Stm}{ss:List Stm}(h:s∈ss):s.many<=aS ss:=by
 induction ss with
 |nil=>cases h
 |cons x xs ih=>
  rw [aS];rcases zq12.mp h with z | z
  ·subst z;omega
  ·have:=ih z;omega
theorem lI{s:Stm}{ss:List Stm}(h:s∈ss):s.deep<=bF ss:=by
 induction ss with
 |nil=>cases h
 |cons x xs ih=>
  rw [bF];rcases zq12.mp h with z | z
  ·subst z;omega
  ·have:=ih z;omega
theorem mH:bF (a++b)=max (bF a) (bF b):=by
 induction a with
 |nil=>simp [bF]
 |cons s ss ih=>rw [Bz,bF,bF,ih,Nat.max_assoc]
theorem eY:aS (a++b)=aS a+aS b:=by
 induction a with
 |nil=>simp [aS]
 |cons s ss ih=>rw [Bz,aS,aS,ih];omega
theorem goodL_append{ns:List Str}{w:Int}:cX ns w (a++b)↔cX ns w a/\cX ns w b:=by
 induction a with
 |nil=>simp [cX]
 |cons s ss ih=>rw [Bz,cX,cX,ih];exact and_assoc.symm
end FS
namespace FP
open PySem L2 FB FS FA PyProof.Rows
theorem oJ{m:Int}{ns:List Str}{w:Int}:Deed.good ns w (eQ m ns w):=by
 have og:∀k,Opd.good ns w (pN k ns w):=fun k=>by
  unfold pN
  split
  ·next h=>exact i4 h.2
  ·have hp:(0:Int)<1 * 2 ^ w.toNat:=by rw [nO];exact rc Jkm
   refine ⟨eI _ Jlk,?_⟩;have:=gk (k / 3) hp;rw [nO] at this ⊢;exact this
 unfold eQ
 split
 ·exact og _
 ·next h=>
  have hne:¬ns=[]:=fun z=>h (.inr z)
  split
  ·exact ⟨i4 hne,og _⟩
  ·have hf:=j4 (m:=m) (ns:=ns) (w:=w);unfold eQ at hf;rw [zq0 h,zq0 (by assumption)] at hf;exact zAF hf (i4 hne) (og _) (og _)
structure BC(ns:List Str)(w:Int)(h:Nat)(e:Ent):Prop where
 d1:bF e.rows+h<=8
 d2:bF e.ones+h<=8
 g1:cX ns w e.rows
 g2:cX ns w e.ones
 nm:h≠0->e.name∈ns
def EsG(ns:List Str)(w:Int):List Ent->Prop
 | []=>True
 |e::es=>BC ns w es.length e/\EsG ns w es
def kO:List Ent->Nat
 | []=>0
 |e::es=>aS e.rows+aS e.ones+kO es
def gQ(es:List Ent):Nat:=kO es+(es.length-1)
theorem oC{ns:List Str}{w:Int}{h:Nat}{e:Ent}(g:BC ns w (h+1) e):(cy e).good ns w/\(cy e).deep+h<=8/\(cy e).many<=aS e.rows+aS e.ones+1:=by
 have hn:=g.nm Jlk;have h1:=g.d1;have h2:=g.d2;unfold cy
 cases e.kind
 ·exact zAB (zAB hn g.g2 g.g1) (by simp only [Stm.deep];omega) (by simp only [Stm.many];omega)
 ·exact zAB (zAB hn g.g1 trivial) (by simp only [Stm.deep,bF];omega) (by simp only [Stm.many,aS];omega)
 ·exact zAB ⟨hn,g.g1⟩ (by simp only [Stm.deep];omega) (by simp only [Stm.many];omega)
 ·exact zAB (zAB hn g.g2 g.g1) (by simp only [Stm.deep];omega) (by simp only [Stm.many];omega)
theorem nX{ns:List Str}{w:Int}{h:Nat}{e:Ent}{s:Stm}(g:BC ns w h e)(hg:s.good ns w)(hd:s.deep+h<=8):BC ns w h (e.add s):=by have h1:=g.d1;refine ⟨?_,g.d2,goodL_append.mpr (zAB g.g1 hg trivial),g.g2,g.nm⟩;show bF (e.rows++[s])+h<=8;rw [mH,bF,bF];omega
theorem gP{ns:List Str}{w:Int}{e e2:Ent}{es:List Ent}(g:EsG ns w (e::e2::es)):EsG ns w (eP (e::e2::es))/\gQ (eP (e::e2::es))<=gQ (e::e2::es):=by obtain ⟨g1,g2,g3⟩:=g;obtain ⟨c1,c2,c3⟩:=oC (h:=es.length) g1;refine ⟨⟨nX g2 c1 c2,g3⟩,?_⟩;show kO (e2.add (cy e)::es)+_<=kO (e::e2::es)+_;simp only [kO,Ent.add,eY,aS,eP,List.length_cons];omega
theorem gr{ns:List Str}{w:Int}:∀{es:List Ent},EsG ns w es->cX ns w (bZ es)/\bF (bZ es)<=8/\aS (bZ es)<=gQ es
 | [],_=>by rw [bZ];exact zAB trivial (by simp [bF]) (by simp [aS])
 | [e],g=>by
  rw [bZ];have:=g.1.d1;exact zAB g.1.g1 (by simp at this;omega) (by simp only [gQ,kO];omega)
 |e::e2::es,g=>by rw [bZ];obtain ⟨h1,h2⟩:=gP g;obtain ⟨h3,h4,h5⟩:=gr (es:=e2.add (cy e)::es) h1;exact zAB h3 h4 (dI h5 h2)
termination_by es=>es.length
end FP
namespace L2
open PySem PySem.Spec PyProof.Rows
variable {H:Hp} {o:HO} {p:Addr}
def SameX(p:Addr)(H H':Hp):Prop:=∀c o,H c=some o->c≠p->H' c=some o
theorem SameX.refl:SameX p H H:=fun _ _ e _=>e
theorem SameX.trans{H1 H2:Hp}(a:SameX p H H1)(b:SameX p H1 H2):SameX p H H2:=fun c o e n=>b c o (a c o e n) n
theorem SameX.of{H':Hp}(s:Same H H'):SameX p H H':=fun c o e _=>s c o e
theorem SameX.upd:SameX p H (L2.upd H p o):=fun c u e n=>by rw [ao n];exact e
theorem SameX.free{c:Addr}{H':Hp}(s:SameX p H H')(hp:H' p=some o)(h:H' c=none):H c=none:=by
 cases e:H c with
 |none=>rfl
 |some u=>
  have n:c≠p:=fun z=>by subst z;rw [hp] at h;cases h
  rw [s c u e n] at h;cases h
theorem TSame.updI{C dx:Addr}{fs:List (Str×V)}(h:H p=some (.ins C dx fs)):TSame H (L2.upd H p o):=
 ⟨fun b xs e=>by rw [ao (fun z=>by rw [z,h] at e;cases e)];exact e,fun b u v e=>by rw [ao (fun z=>by rw [z,h] at e;cases e)];exact e⟩
end L2
namespace FS
open PySem L2 FB PyProof.Rows
def Gc(wd:Int)(a b r:Addr):List (Str×V):=[("width",.int wd),("ins",.ref a),("boxes",.ref b),("rows",.ref r)]
structure ProgAt(K:W.Frag)(C:Addr)(H:Hp)(p:Addr)(wd:Int)(ins oth:List Str)(ss:List Stm)(a b r:Addr)(xs:List V)(f:List Addr):Prop where
 ob:∃dx,H p=some (.ins C dx (Gc wd a b r))
 ia:H a=some (.lst (ins.map V.str))
 bx:H b=some (.lst ((ins++oth).map V.str))
 rs:H r=some (.lst xs)
 st:StmsV K H xs ss f
theorem ProgAt.same{K:W.Frag}{C:Addr}{H H':Hp}{p:Addr}{wd:Int}{ins oth:List Str}{ss:List Stm}{a b r:Addr}{xs:List V}{f:List Addr}(h:ProgAt K C H p wd ins oth ss a b r xs f)(s:Same H H'):ProgAt K C H' p wd ins oth ss a b r xs f:=
 ⟨let ⟨dx,e⟩:=h.ob;⟨dx,s _ _ e⟩,s _ _ h.ia,s _ _ h.bx,s _ _ h.rs,h.st.same s⟩
theorem cz{f:Str}{v:V}:∀{fs:List (Str×V)},(fs.map (·.1)).contains f=false->cU f v fs=fs++[(f,v)]
 | [],_=>rfl
 | (g,x)::r,h=>by
  rw [ce,List.contains_cons,Bool.or_eq_false_iff] at h;have n:¬g=f:=fun z=>by subst z;simp at h
  rw [show cU f v ((g,x)::r)=(if g=f then (g,v)::r else (g,x)::cU f v r) from rfl,zq0 n,cz h.2];rfl
end FS
namespace K01M
variable {a b:Nat}
def bsN(f:Nat->Nat->Nat)(a b:Nat):Nat->Nat
 |0=>0
 |i+1=>bsN f a b i+f (a / 2 ^ i % 2) (b / 2 ^ i % 2) * 2 ^ i
theorem pG(x w:Nat):x % 2 ^ (w+1)=x % 2 ^ w+x / 2 ^ w % 2 * 2 ^ w:=by rw [B7,Nat.mod_mul,Nat.mul_comm]
theorem tb(x w:Nat):x / 2 ^ w % 2=(x.testBit w).toNat:=by
 rw [Nat.testBit_eq_decide_div_mod_eq];have h:x / 2 ^ w % 2=0\/x / 2 ^ w % 2=1:=by omega
 rcases h with h | h<;>simp [h]
theorem xX(a b:Nat):∀w,bsN (· * ·) a b w=(a &&& b) % 2 ^ w
 |0=>by simp [bsN,Nat.mod_one]
 |w+1=>by
  rw [bsN,xX a b w,pG,tb,tb,tb,Nat.testBit_and]
  cases a.testBit w<;>cases b.testBit w<;>simp
theorem Dr(a b:Nat):∀w,bsN (fun p q=>max p q) a b w=(a ||| b) % 2 ^ w
 |0=>by simp [bsN,Nat.mod_one]
 |w+1=>by
  rw [bsN,Dr a b w,pG,tb,tb,tb,Nat.testBit_or]
  cases a.testBit w<;>cases b.testBit w<;>simp
theorem xY(a b:Nat):∀w,bsN (fun p q=>(p+q) % 2) a b w+bsN (· * ·) a b w=bsN (fun p q=>max p q) a b w
 |0=>rfl
 |w+1=>by
  have ih:=xY a b w;have ea:a / 2 ^ w % 2=0\/a / 2 ^ w % 2=1:=by omega
  have eb:b / 2 ^ w % 2=0\/b / 2 ^ w % 2=1:=by omega
  rw [bsN,bsN,bsN];rcases ea with e | e<;>rcases eb with e' | e'<;>simp only [e,e']<;>simp<;>omega
def bsI(f:Int->Int->Int)(x y:Int):Nat->Int
 |0=>0
 |i+1=>bsI f x y i+f (x / 2 ^ i % 2) (y / 2 ^ i % 2) * 2 ^ i
theorem fL{f:Int->Int->Int}{g:Nat->Nat->Nat}(h:∀p q:Nat,f p q=(g p q:Nat))(a b:Nat):∀w,bsI f a b w=((bsN g a b w:Nat):Int)
 |0=>rfl
 |w+1=>by
  rw [bsI,bsN,fL h a b w];have e:∀x:Nat,((x:Int) / 2 ^ w % 2)=((x / 2 ^ w % 2:Nat):Int):=fun x=>by simp
  rw [e,e,h];simp
theorem xI{w:Nat}(ha:a<2 ^ w):bsI (· * ·) a b w=((a &&& b:Nat):Int):=by rw [fL (g:=(· * ·)) (fun p q=>Jll) a b w,xX,Nat.mod_eq_of_lt (qX B8 ha)]
theorem Dy{w:Nat}(ha:a<2 ^ w)(hb:b<2 ^ w):bsI (fun p q=>max p q) a b w=((a ||| b:Nat):Int):=by rw [fL (g:=fun p q=>max p q) (fun p q=>Jlk) a b w,Dr,Nat.mod_eq_of_lt (B9 ha hb)]
theorem Ia{w:Nat}(ha:a<2 ^ w)(hb:b<2 ^ w):bsI (fun p q=>(p+q) % 2) a b w=((a ||| b:Nat):Int)-((a &&& b:Nat):Int):=by have e1:bsI (fun p q=>(p+q) % 2) a b w=_:=fL (g:=fun p q=>(p+q) % 2) (fun p q=>Jlk) a b w;have e2:bsI (fun p q=>max p q) a b w=_:=fL (g:=fun p q=>max p q) (fun p q=>Jlk) a b w;have e3:bsI (· * ·) a b w=_:=fL (g:=(· * ·)) (fun p q=>Jll) a b w;have h:=xY a b w;rw [<- Dy ha hb,<- xI (b:=b) ha,e1,e2,e3];omega
end K01M
namespace FO
open PySem L2 K01M FB PyProof.Rows
abbrev ops:List Str:=FB.opsL
def kS(op:Str)(x y w:Int):Int:=
 if op="plus" then (x+y) % 2 ^ w.toNat else if op="less" then (x-y) % 2 ^ w.toNat else if op="and" then Builtin.bitAnd x y else if op="or" then Builtin.bitOr x y
 else if op="xor" then Builtin.bitXor x y else if op="below" then (if x<y then 1 else 0) else if x=y then 1 else 0
def fof(op:Str)(p q:Int):Int:=if op="and" then p * q else if op="or" then (if q>p then q else p) else (p+q) % 2
def lop(op:Str)(x y w:Int):Int:=
 if op="plus" then (x+y) % (1 * 2 ^ w.toNat) else if op="less" then (x-y) % (1 * 2 ^ w.toNat) else if op="below" then (if decide (x<y)=true then 1 else 0)
 else if op="same" then (if decide (x=y)=true then 1 else 0) else bsI (fof op) x y w.toNat
theorem Fu(p q:Int):(if q>p then q else p)=max p q:=by split<;>omega
theorem BI(a b:Nat):Builtin.bitAnd (a:Int) (b:Int)=((a &&& b:Nat):Int):=by unfold Builtin.bitAnd;rw [cf (by omega:(0:Int)<=a),cf (by omega:(0:Int)<=b)];rfl
theorem bOr(a b:Nat):Builtin.bitOr (a:Int) (b:Int)=((a ||| b:Nat):Int):=by
 unfold Builtin.bitOr Builtin.bitAnd;have e1:∀z:Nat,Builtin.bitNot (z:Int)=-(z:Int)-1:=fun z=>by unfold Builtin.bitNot;omega
 rw [e1,e1,bC (by omega:¬(0:Int)<=-(a:Int)-1),bC (by omega:¬(0:Int)<=-(b:Int)-1)];show Builtin.bitNot (Builtin.bitNot (((Builtin.bitNot (-(a:Int)-1)).toNat ||| (Builtin.bitNot (-(b:Int)-1)).toNat:Nat):Int))=_;have e2:∀z:Nat,(Builtin.bitNot (-(z:Int)-1)).toNat=z:=fun z=>by unfold Builtin.bitNot;omega
 rw [e2,e2,e1];unfold Builtin.bitNot;omega
theorem fK{f g:Int->Int->Int}(h:∀p q,f p q=g p q)(x y:Int):∀n,bsI f x y n=bsI g x y n
 |0=>rfl
 |n+1=>by rw [bsI,bsI,fK h x y n,h]
theorem Ih{op:Str}{x y w:Int}(ho:op∈ops)(x0:0<=x)(x1:x<2 ^ w.toNat)(y0:0<=y)(y1:y<2 ^ w.toNat):kS op x y w=lop op x y w:=by
 obtain ⟨a,rfl⟩:=kW x0;obtain ⟨b,rfl⟩:=kW y0;have ha:a<2 ^ w.toNat:=by
  have:((a:Nat):Int)<((2 ^ w.toNat:Nat):Int):=by simpa using x1
  omega
 have hb:b<2 ^ w.toNat:=by
  have:((b:Nat):Int)<((2 ^ w.toNat:Nat):Int):=by simpa using y1
  omega
 unfold kS lop;rw [nO];have q:op="plus"\/op="less"\/op="and"\/op="or"\/op="xor"\/op="below"\/op="same":=by simpa [FB.opsL] using ho
 have n1:¬("less":Str)="plus":=by decide +kernel
 have n2:¬("and":Str)="plus":=by decide +kernel
 have n3:¬("and":Str)="less":=by decide +kernel
 have n4:¬("and":Str)="below":=by decide +kernel
 have n5:¬("and":Str)="same":=by decide +kernel
 have n6:¬("or":Str)="plus":=by decide +kernel
 have n7:¬("or":Str)="less":=by decide +kernel
 have n8:¬("or":Str)="below":=by decide +kernel
 have n9:¬("or":Str)="same":=by decide +kernel
 have n10:¬("or":Str)="and":=by decide +kernel
 have n11:¬("xor":Str)="plus":=by decide +kernel
 have n12:¬("xor":Str)="less":=by decide +kernel
 have n13:¬("xor":Str)="below":=by decide +kernel
 have n14:¬("xor":Str)="same":=by decide +kernel
 have n15:¬("xor":Str)="and":=by decide +kernel
 have n16:¬("xor":Str)="or":=by decide +kernel
 have m1:¬("below":Str)="plus":=by decide +kernel
 have m2:¬("below":Str)="less":=by decide +kernel
 have m3:¬("below":Str)="and":=by decide +kernel
 have m4:¬("below":Str)="or":=by decide +kernel
 have m5:¬("below":Str)="xor":=by decide +kernel
 have m6:¬("same":Str)="plus":=by decide +kernel
 have m7:¬("same":Str)="less":=by decide +kernel
 have m8:¬("same":Str)="and":=by decide +kernel
 have m9:¬("same":Str)="or":=by decide +kernel
 have m10:¬("same":Str)="xor":=by decide +kernel
 have m11:¬("same":Str)="below":=by decide +kernel
 rcases q with rfl | rfl | rfl | rfl | rfl | rfl | rfl
 ·rw [zq1 rfl,zq1 rfl]
 ·rw [zq0 n1,zq1 rfl,zq0 n1,zq1 rfl]
 ·rw [zq0 n2,zq0 n3,zq1 rfl,zq0 n2,zq0 n3,zq0 n4,zq0 n5,BI,<- xI (b:=b) ha];exact fK (fun p q=>by unfold fof;rw [zq1 rfl]) _ _ _
 ·rw [zq0 n6,zq0 n7,zq0 n10,zq1 rfl,zq0 n6,zq0 n7,zq0 n8,zq0 n9,bOr,<- Dy ha hb];exact fK (fun p q=>by unfold fof;rw [zq0 n10,zq1 rfl];exact (Fu p q).symm) _ _ _
 ·rw [zq0 n11,zq0 n12,zq0 n15,zq0 n16,zq1 rfl,zq0 n11,zq0 n12,zq0 n13,zq0 n14];unfold Builtin.bitXor;rw [BI,bOr,<- Ia ha hb];exact fK (fun p q=>by unfold fof;rw [zq0 n15,zq0 n16]) _ _ _
 ·rw [zq0 m1,zq0 m2,zq0 m3,zq0 m4,zq0 m5,zq1 rfl,zq0 m1,zq0 m2,zq1 rfl];simp
 ·rw [zq0 m6,zq0 m7,zq0 m8,zq0 m9,zq0 m10,zq0 m11,zq0 m6,zq0 m7,zq0 m11,zq1 rfl];simp
theorem D7{op:Str}{x y w:Int}(ho:op∈ops)(x0:0<=x)(x1:x<2 ^ w.toNat)(y0:0<=y)(y1:y<2 ^ w.toNat)(hw:1<=w):0<=kS op x y w/\kS op x y w<2 ^ w.toNat:=by
 obtain ⟨a,rfl⟩:=kW x0;obtain ⟨b,rfl⟩:=kW y0;have ca:((2 ^ w.toNat:Nat):Int)=2 ^ w.toNat:=by simp
 have ha:a<2 ^ w.toNat:=by rw [<- ca] at x1;omega
 have hb:b<2 ^ w.toNat:=by rw [<- ca] at y1;omega
 have hp:(0:Int)<2 ^ w.toNat:=rc Jkm;have h2:(2:Int)<=2 ^ w.toNat:=by have:2 ^ 1<=2 ^ w.toNat:=vH Jkm Jlk;rw [<- ca];omega
 unfold kS
 split
 ·exact ⟨eI _ Jlk,gk _ hp⟩
 split
 ·exact ⟨eI _ Jlk,gk _ hp⟩
 split
 ·rw [BI,<- ca];have:=qX (B8 (n:=a) (m:=b)) ha;omega
 split
 ·rw [bOr,<- ca];have:=B9 ha hb;omega
 split
 ·unfold Builtin.bitXor;rw [BI,bOr,<- ca];have h1:=B9 ha hb;have h3:(a &&& b)<=(a ||| b):=dI B8 Nat.left_le_or;omega
 split
 ·split<;>omega
 ·split<;>omega
end FO
namespace FR
open PySem L2 FB FS FG FO PyProof.Rows
abbrev Bx:=List (Key×V)
variable {b ws:Bx} {n:Str}
def b8(b:Bx)(n:Str):Int:=(kG b n).getD 0
def gi(b:Bx):Opd->Int
 | .box n=>b8 b n
 | .word i=>i
def j5(b:Bx)(w:Int):Deed->Int
 | .tell a=>gi b a
 | .copy _ a=>gi b a
 | .op f _ x y=>kS f (gi b x) (gi b y) w
def doT(w:Int)(d:Deed)(b:Bx)(t:List Int):List Int:=match d with
 | .tell _=>t++[j5 b w d]
 |_=>t
structure BxG(ns:List Str)(w:Int)(b:Bx):Prop where
 isI:IntD b
 few:b.length<=1000
 has:∀n∈ns,∃x,kG b n=some x/\0<=x/\x<2 ^ w.toNat
theorem BxG.get{ns:List Str}{w:Int}(h:BxG ns w b)(hn:n∈ns):0<=b8 b n/\b8 b n<2 ^ w.toNat:=by obtain ⟨x,hx,h0,h1⟩:=h.has n hn;unfold b8;rw [hx];exact ⟨h0,h1⟩
theorem AN{kvs:List (Key×V)}{x:Int}(h:kG kvs n=some x):bh kvs (.inr n)=some (.int x):=by
 unfold kG at h
 split at h
 ·next e=>cases h;exact e
 ·cases h
theorem BxG.val{ns:List Str}{w:Int}(h:BxG ns w b)(hn:n∈ns):bh b (.inr n)=some (.int (b8 b n)):=by obtain ⟨x,hx,_⟩:=h.has n hn;unfold b8;rw [hx];exact AN hx
theorem jm{k:Key}{v u:V}(h:bh b k=some u):(bo b k v).length=b.length:=by have:=cI k b;rw [h] at this;unfold bo;rw [zq1 (by rw [this];rfl),zq3]
theorem BxG.put{ns:List Str}{w:Int}{x:Int}(h:BxG ns w b)(hn:n∈ns)(h0:0<=x)(h1:x<2 ^ w.toNat):BxG ns w (bo b (.inr n) (.int x)):=
 ⟨h.isI.put _ _,by rw [jm (h.val hn)];exact h.few,fun m hm=>by
  rw [il]
  by_cases e:m=n
  ·rw [zq1 e];exact zAC x rfl h0 h1
  ·rw [zq0 e];exact h.has m hm⟩
theorem fT{ns:List Str}{w:Int}{o:Opd}(h:BxG ns w b)(ho:Opd.good ns w o):0<=gi b o/\gi b o<2 ^ w.toNat:=by
 cases o with
 |box n=>exact h.get ho
 |word i=>exact ho
theorem ya{ns:List Str}{w:Int}{d:Deed}(h:BxG ns w b)(hd:Deed.good ns w d)(hw:1<=w):0<=j5 b w d/\j5 b w d<2 ^ w.toNat:=by
 cases d with
 |tell a=>exact fT h hd
 |copy n a=>exact fT h hd.2
 |op f n x y=>obtain ⟨h1,_,h3,h4⟩:=hd;have a:=fT h h3;have b:=fT h h4;exact D7 h1 a.1 a.2 b.1 b.2 hw
def bj(ins:List Str)(ws:Bx)(ns:List Str):Bx:=ns.foldl (fun b n=>bo b (.inr n) (.int (if n∈ins then b8 ws n else 0))) []
theorem fw{ins:List Str}{ns:List Str}:bj ins ws (ns++[n])=bo (bj ins ws ns) (.inr n) (.int (if n∈ins then b8 ws n else 0)):=by unfold bj;rw [nQ];rfl
theorem lJ{ins:List Str}{w:Int}(hw:∀n∈ins,0<=b8 ws n/\b8 ws n<2 ^ w.toNat):∀(m:Nat)(ns:List Str),ns.length=m->IntD (bj ins ws ns)/\(bj ins ws ns).length<=ns.length/\∀n∈ns,∃x,kG (bj ins ws ns) n=some x/\0<=x/\x<2 ^ w.toNat:=by
 intro m
 induction m with
 |zero=>
  intro ns h;have:ns=[]:=zq54.mp h;subst this;exact zAB IntD.nil (zq5 _) (fun n hn=>by cases hn)
 |succ m ih=>
  intro ns h;obtain ⟨l,x,rfl⟩:∃l x,ns=l++[x]:=⟨ns.dropLast,ns.getLast (by intro z;rw [z] at h;simp at h),(xy _).symm⟩
  have hl:l.length=m:=by simpa using h
  obtain ⟨i1,i2,i3⟩:=ih l hl;rw [fw];refine zAB (i1.put _ _) ?_ fun n hn=>?_
  ·have:=cO (bj ins ws l) (.inr x) (.int (if x∈ins then b8 ws x else 0));rw [zq7,bV];omega
  ·rw [il]
   by_cases e:n=x
   ·rw [zq1 e];refine zn _ rfl ?_
    split
    ·next hm=>exact hw x hm
    ·exact ⟨Int.le_refl _,rc Jkm⟩
   ·rw [zq0 e];refine i3 n ?_;rcases zq18.mp hn with z | z
    ·exact z
    ·exact absurd (zq10.mp z) e
theorem j7{ins:List Str}{w:Int}{ns:List Str}(hw:∀n∈ins,0<=b8 ws n/\b8 ws n<2 ^ w.toNat)(hl:ns.length<=1000):BxG ns w (bj ins ws ns):=by obtain ⟨a,b,c⟩:=lJ hw _ ns rfl;exact ⟨a,Jlk,c⟩
end FR
namespace L2
open PySem PySem.Spec PyProof.Rows
variable {H:Hp} {p r:Addr}
section
variable {K:W.Frag} {te:TE} {ci:List Nat} {σ:St} {acc:Addr} {Q:Hp->Prop} {H1:Hp} {a:Addr} {xs:List V}
end
theorem fZ{c:TT}{tb:TS}{D:de}{σ:St}(Pv:St->Hp->Prop)(μ:St->Hp->Nat)(h0:Pv σ H)
 (hs:∀σ H,Pv σ H->c σ H fun b H1=>if b=true then ∃N:St->Hp->Prop,(∀σ' H',N σ' H'->∃m',m'<μ σ H/\m'=μ σ' H'/\Pv σ' H')/\tb {D with nx:=N,ct:=N,bk:=D.nx} σ H1 else D.nx σ H1):AC c tb D σ H:=by
 refine zn (fun m σ H=>m=μ σ H/\Pv σ H) (zn _ rfl h0) ?_;rintro m σ H ⟨rfl,p⟩;exact hs σ H p
def SameB(p r:Addr)(H H':Hp):Prop:=∀c o,H c=some o->c≠p->c≠r->H' c=some o
theorem SameB.refl:SameB p r H H:=fun _ _ e _ _=>e
theorem SameB.trans{H1 H2:Hp}(a:SameB p r H H1)(b:SameB p r H1 H2):SameB p r H H2:=fun c o e n m=>b c o (a c o e n m) n m
theorem SameB.of{H':Hp}(s:Same H H'):SameB p r H H':=fun c o e _ _=>s c o e
theorem SameB.upd1{o:HO}:SameB p r H (L2.upd H p o):=fun c u e n _=>by rw [ao n];exact e
theorem SameB.upd2{o:HO}:SameB p r H (L2.upd H r o):=fun c u e _ n=>by rw [ao n];exact e
end L2
namespace FW
open PySem L2 FB FS FG FO FR PyProof.Rows
section
variable {K:W.Frag} {H:Hp}
end
end FW
namespace FX
open PySem L2 FB FS FG FO FR FW PyProof.Rows
structure Nd where
 rd:List Str
 nm:Option Str
 ah:List Int
def at0(v:Nat->Nat)(j:Int):Nat:=if j<0 then 0 else v j.toNat
def seen(old new:Nat->Nat)(i:Nat)(j:Int):Nat:=if j<0 then 0 else if j.toNat<i then new j.toNat else old j.toNat
section
variable {n:Str} {N:List Nd} {v:Nat->Nat->Nat}
def sq(v:Nat->Nat->Nat)(j:Int):Nat->Nat:=fun p=>at0 (v (p+1)) j
end
section
variable {S:List (List Str)}
end
end FX
namespace FX
open PySem L2 FB FS FG FO FR FW PyProof.Rows PySem.Spec
def leS(a b:Str):Bool:=! ltCps b.cps.toList a.cps.toList
def srt(l:List Str):List Str:=l.mergeSort leS
end FX
namespace L2
open PySem PySem.Spec PyProof.Rows
section
variable {X:Cx}
end
end L2
namespace FZ
open PySem L2 FB FS FG FO FR PyProof.Rows
inductive Ed where
 |stop
 |go (i:Nat)
 |choose (n:Str) (i j:Nat)
 deriving DecidableEq
structure Blk where
 ds:List Deed
 ed:Ed
def aF(b:Blk)(B:List Blk):Nat×List Blk:=match b.ds,b.ed with
 | [],.go i=>(i,B)
 |_,_=>(B.length,B++[b])
mutual
def bW:Stm->Blk->List Blk->Blk×List Blk
 | .deed d,b,B=>if b.ds.length=8 then (⟨[d],.go (aF b B).1⟩,(aF b B).2) else (⟨d::b.ds,b.ed⟩,B)
 | .ifs n x y,b,B=>
  let w:=aF b B
  let o:=aK x ⟨[],.go w.1⟩ w.2
  let wo:=aF o.1 o.2
  let p:=aK y ⟨[],.go w.1⟩ wo.2
  let wp:=aF p.1 p.2
  (⟨[],.choose n wo.1 wp.1⟩,wp.2)
 | .whl n a,b,B=>
  let w:=aF b B
  let o:=aK a ⟨[],.go w.2.length⟩ (w.2++[⟨[],.stop⟩])
  let wo:=aF o.1 o.2
  (⟨[],.go w.2.length⟩,wo.2.set w.2.length ⟨[],.choose n wo.1 w.1⟩)
def aK:List Stm->Blk->List Blk->Blk×List Blk
 | [],b,B=>(b,B)
 |s::r,b,B=>bW s (aK r b B).1 (aK r b B).2
end
def b7(ss:List Stm):List Blk:=(aK ss ⟨[],.stop⟩ [⟨[],.stop⟩]).2.set 0 (aK ss ⟨[],.stop⟩ [⟨[],.stop⟩]).1
def Ed.tg:Ed->List Nat
 | .stop=>[]
 | .go i=>[i]
 | .choose _ i j=>[i,j]
theorem qG(b:Blk)(B:List Blk):((aF b B).2=B/\b.ds=[]/\b.ed=.go (aF b B).1)\/((aF b B).1=B.length/\(aF b B).2=B++[b]):=by
 obtain ⟨ds,ed⟩:=b;unfold aF
 cases ds with
 |nil=>
  cases ed with
  |stop=>exact .inr ⟨rfl,rfl⟩
  |go i=>exact .inl (zAB rfl rfl rfl)
  |choose n i j=>exact .inr ⟨rfl,rfl⟩
 |cons d r=>exact .inr ⟨rfl,rfl⟩
theorem bz(b:Blk)(B:List Blk):B.length<=(aF b B).2.length/\(aF b B).2.length<=B.length+1/\∀i,i<B.length->(aF b B).2[i]?=B[i]?:=by
 rcases qG b B with ⟨h,_⟩ | ⟨_,h⟩
 ·rw [h];exact zAB (zq5 _) Jlk fun _ _=>rfl
 ·rw [h,zq7,bV];exact zAB Jlk Jlk fun i hi=>jp hi
theorem cN{A B C:List Blk}(h1:A.length<=B.length/\∀i,i<A.length->B[i]?=A[i]?)(h2:B.length<=C.length/\∀i,i<B.length->C[i]?=B[i]?):A.length<=C.length/\∀i,i<A.length->C[i]?=A[i]?:=⟨dI h1.1 h2.1,fun i hi=>(h2.2 i (fj hi h1.1)).trans (h1.2 i hi)⟩
theorem cZ(b:Blk)(B:List Blk):B.length<=(aF b B).2.length/\∀i,i<B.length->(aF b B).2[i]?=B[i]?:=⟨(bz b B).1,(bz b B).2.2⟩
theorem BG(b:Blk)(B:List Blk):B.length<=(B++[b]).length/\∀i,i<B.length->(B++[b])[i]?=B[i]?:=⟨by rw [zq7];exact nR _ _,fun _ hi=>jp hi⟩
theorem Da{A B:List Blk}(b:Blk)(h:A.length<=B.length/\∀i,i<A.length->B[i]?=A[i]?):A.length<=(B.set A.length b).length/\∀i,i<A.length->(B.set A.length b)[i]?=A[i]?:=⟨by rw [tw];exact h.1,fun i hi=>(AV (xt hi)).trans (h.2 i hi)⟩
mutual
theorem xk:∀(s:Stm)(b:Blk)(B:List Blk),B.length<=(bW s b B).2.length/\∀i,i<B.length->(bW s b B).2[i]?=B[i]?
 | .deed d,b,B=>by
  rw [bW]
  split
  ·exact cZ b B
  ·exact ⟨zq5 _,fun _ _=>rfl⟩
 | .ifs n x y,b,B=>by
  rw [bW];exact cN (cZ _ _) (cN (bN x _ _) (cN (cZ _ _) (cN (bN y _ _) (cZ _ _))))
 | .whl n a,b,B=>by rw [bW];exact cN (cZ b B) (Da _ (cN (BG _ _) (cN (bN a _ _) (cZ _ _))))
theorem bN:∀(l:List Stm)(b:Blk)(B:List Blk),B.length<=(aK l b B).2.length/\∀i,i<B.length->(aK l b B).2[i]?=B[i]?
 | [],b,B=>by rw [aK];exact ⟨zq5 _,fun _ _=>rfl⟩
 |s::r,b,B=>by rw [aK];exact cN (bN r b B) (xk s _ _)
end
mutual
theorem xl:∀(s:Stm)(b:Blk)(B:List Blk),(bW s b B).2.length<=B.length+3 * s.many
 | .deed d,b,B=>by
  have:=(bz b B).2.1;rw [bW,Stm.many]
  split<;>dsimp only<;>omega
 | .ifs n x y,b,B=>by
  rw [bW,Stm.many];dsimp only;have h1:=bz b B;generalize aF b B=w at *;have h2:=cC x ⟨[],.go w.1⟩ w.2;generalize aK x ⟨[],.go w.1⟩ w.2=o at *;have h3:=bz o.1 o.2;generalize aF o.1 o.2=wo at *;have h4:=cC y ⟨[],.go w.1⟩ wo.2;generalize aK y ⟨[],.go w.1⟩ wo.2=p at *;have h5:=bz p.1 p.2;generalize aF p.1 p.2=wp at *;omega
 | .whl n a,b,B=>by rw [bW,Stm.many];dsimp only;have h1:=bz b B;generalize aF b B=w at *;have h2:=cC a ⟨[],.go w.2.length⟩ (w.2++[⟨[],.stop⟩]);generalize aK a ⟨[],.go w.2.length⟩ (w.2++[⟨[],.stop⟩])=o at *;have h3:=bz o.1 o.2;generalize aF o.1 o.2=wo at *;rw [zq7,bV] at h2;rw [tw];omega
theorem cC:∀(l:List Stm)(b:Blk)(B:List Blk),(aK l b B).2.length<=B.length+3 * aS l
 | [],b,B=>by rw [aK,aS];exact nR _ _
 |s::r,b,B=>by have h1:=cC r b B;rw [aK,aS];generalize aK r b B=o at *;have h2:=xl s o.1 o.2;omega
end
theorem gN(ss:List Stm):(b7 ss).length<=3 * aS ss+1/\0<(b7 ss).length:=by have h1:=cC ss ⟨[],.stop⟩ [⟨[],.stop⟩];have h2:=(bN ss ⟨[],.stop⟩ [⟨[],.stop⟩]).1;unfold b7;rw [tw];simp only [List.length_singleton] at h1 h2;omega
structure BlkG(ns:List Str)(w:Int)(m:Nat)(b:Blk):Prop where
 gd:∀d∈b.ds,Deed.good ns w d
 len:b.ds.length<=8
 tg:∀i∈b.ed.tg,i<m
 nm:∀n i j,b.ed=.choose n i j->n∈ns
theorem BlkG.mono{ns:List Str}{w:Int}{m m':Nat}{b:Blk}(h:BlkG ns w m b)(hm:m<=m'):BlkG ns w m' b:=⟨h.gd,h.len,fun i hi=>fj (h.tg i hi) hm,h.nm⟩
def jg(ns:List Str)(w:Int)(m:Nat)(B:List Blk):Prop:=∀b∈B,BlkG ns w m b
theorem goG{ns:List Str}{w:Int}{m i:Nat}(h:i<m):BlkG ns w m ⟨[],.go i⟩:=⟨fun d hd=>(qN hd).elim,cq _,fun j hj=>by rw [zq10.mp hj];exact h,fun n i j e=>by cases e⟩
theorem Ar{ns:List Str}{w:Int}{m:Nat}:BlkG ns w m ⟨[],.stop⟩:=⟨fun d hd=>(qN hd).elim,cq _,fun j hj=>(qN hj).elim,fun n i j e=>by cases e⟩
theorem fY{ns:List Str}{w:Int}{b:Blk}{B:List Blk}(hb:BlkG ns w B.length b)(hB:jg ns w B.length B):(aF b B).1<(aF b B).2.length/\jg ns w (aF b B).2.length (aF b B).2:=by
 rcases qG b B with ⟨h1,h2,h3⟩ | ⟨h1,h2⟩
 ·rw [h1];exact ⟨hb.tg _ (by rw [h3];simp [Ed.tg]),hB⟩
 ·rw [h1,h2,zq7,bV];refine ⟨Jlk,fun c hc=>?_⟩;rcases zq18.mp hc with z | z
  ·exact (hB c z).mono Jlk
  ·rw [zq10.mp z];exact hb.mono Jlk
mutual
theorem Dk{ns:List Str}{w:Int}:∀(s:Stm)(b:Blk)(B:List Blk),s.good ns w->BlkG ns w B.length b->jg ns w B.length B->BlkG ns w (bW s b B).2.length (bW s b B).1/\jg ns w (bW s b B).2.length (bW s b B).2
 | .deed d,b,B,hs,hb,hB=>by
  rw [bW]
  split
  ·obtain ⟨h1,h2⟩:=fY hb hB;exact ⟨⟨fun c hc=>by rw [zq10.mp hc];exact hs,Jll,fun i hi=>by rw [zq10.mp hi];exact h1,fun n i j e=>by cases e⟩,h2⟩
  ·next hl=>
   have:=hb.len;exact ⟨⟨fun c hc=>by
    rcases zq12.mp hc with z | z
    ·rw [z];exact hs
    ·exact hb.gd c z,by rw [cW];omega,hb.tg,hb.nm⟩,hB⟩
 | .ifs n x y,b,B,hs,hb,hB=>by
  rw [bW];dsimp only;obtain ⟨h1,h2⟩:=fY hb hB;generalize aF b B=w0 at *;obtain ⟨h3,h4⟩:=hV x ⟨[],.go w0.1⟩ w0.2 hs.2.1 (goG h1) h2;have l3:=bN x ⟨[],.go w0.1⟩ w0.2;generalize aK x ⟨[],.go w0.1⟩ w0.2=o at *;obtain ⟨h5,h6⟩:=fY h3 h4;have l5:=bz o.1 o.2;generalize aF o.1 o.2=wo at *;obtain ⟨h7,h8⟩:=hV y ⟨[],.go w0.1⟩ wo.2 hs.2.2 (goG Jlk) h6;have l7:=bN y ⟨[],.go w0.1⟩ wo.2;generalize aK y ⟨[],.go w0.1⟩ wo.2=p at *;obtain ⟨h9,h10⟩:=fY h7 h8;have l9:=bz p.1 p.2;generalize aF p.1 p.2=wp at *;refine ⟨⟨fun d hd=>(qN hd).elim,cq _,fun i hi=>?_,fun m i j e=>by cases e;exact hs.1⟩,h10⟩;have hi':i∈[wo.1,wp.1]:=hi;rcases zq12.mp hi' with z | z
  ·omega
  ·rw [zq10.mp z];exact h9
 | .whl n a,b,B,hs,hb,hB=>by
  rw [bW];dsimp only;obtain ⟨h1,h2⟩:=fY hb hB;generalize aF b B=w0 at *;have hB2:jg ns w (w0.2++[(⟨[],.stop⟩:Blk)]).length (w0.2++[(⟨[],.stop⟩:Blk)]):=fun c hc=>by
   rw [zq7,bV];rcases zq18.mp hc with z | z
   ·exact (h2 c z).mono Jlk
   ·rw [zq10.mp z];exact Ar
  obtain ⟨h3,h4⟩:=hV a ⟨[],.go w0.2.length⟩ (w0.2++[⟨[],.stop⟩]) hs.2 (goG (by rw [zq7,bV];omega)) hB2;have l3:=bN a ⟨[],.go w0.2.length⟩ (w0.2++[⟨[],.stop⟩]);generalize aK a ⟨[],.go w0.2.length⟩ (w0.2++[⟨[],.stop⟩])=o at *;rw [zq7,bV] at l3;obtain ⟨h5,h6⟩:=fY h3 h4;have l5:=bz o.1 o.2;generalize aF o.1 o.2=wo at *;rw [tw];refine ⟨goG Jlk,fun c hc=>?_⟩;rcases ET hc with z | z
  ·exact h6 c z
  ·rw [z];refine ⟨fun d hd=>(qN hd).elim,cq _,fun i hi=>?_,fun m i j e=>by cases e;exact hs.1⟩;have hi':i∈[wo.1,w0.1]:=hi;rcases zq12.mp hi' with y | y
   ·rw [y];exact h5
   ·rw [zq10.mp y];omega
theorem hV{ns:List Str}{w:Int}:∀(l:List Stm)(b:Blk)(B:List Blk),cX ns w l->BlkG ns w B.length b->jg ns w B.length B->BlkG ns w (aK l b B).2.length (aK l b B).1/\jg ns w (aK l b B).2.length (aK l b B).2
 | [],b,B,_,hb,hB=>by rw [aK];exact ⟨hb,hB⟩
 |s::r,b,B,hl,hb,hB=>by obtain ⟨h1,h2⟩:=hV r b B hl.2 hb hB;rw [aK];exact Dk s _ _ hl.1 h1 h2
end
theorem jD{ns:List Str}{w:Int}{ss:List Stm}(h:cX ns w ss):jg ns w (b7 ss).length (b7 ss):=by
 obtain ⟨h1,h2⟩:=hV ss ⟨[],.stop⟩ [⟨[],.stop⟩] h Ar (fun c hc=>by rw [zq10.mp hc];exact Ar);unfold b7;rw [tw];intro c hc;rcases ET hc with z | z
 ·exact h2 c z
 ·rw [z];exact h1
end FZ
namespace GA
open PySem L2 FB FS FG FO FR FZ PyProof.Rows
theorem BY{w:Int}{d:Deed}{b:Bx}{t:List Int}:(doT w d b t).length<=t.length+1:=by
 unfold doT
 cases d with
 |tell a=>simp
 |copy n a=>simp
 |op f n x y=>simp
abbrev BT:=Bx×List Int
def nxt(b:Bx):Ed->Option Nat
 | .stop=>none
 | .go i=>some i
 | .choose n i j=>some (if b8 b n≠0 then i else j)
end GA
namespace GB
open PySem L2 FB FS FG FO FR FW FX PyProof.Rows
section
variable {K:W.Frag} {H:Hp}
def eqB(l l':List Stm):Bool:=@decide (l=l') (Classical.propDecidable _)
end
end GB
namespace GD
variable {b bt dn:List Nat} {p r:Nat}
section
variable (G:Nat->Nat->Option Int) (so:Nat->Nat) (U:Nat->Int)
def fq(bt:List Nat)(s:Nat):Nat:=bt.countP fun o=>decide (so o=s)
def cP(dn bt:List Nat)(p j:Nat):Bool:=match G j p with
 |none=>true
 |some l=>decide (j∈dn) || (decide (l=0)&&decide (j∈bt))
def bS(dn bt:List Nat)(p:Nat):Bool:=!(decide (so p<3)&&decide ((fq so bt (so p):Int)=U (so p)))&&(List.range p).all (cP G dn bt p)
def gu(dn bt:List Nat)(p:Nat):List (List Nat):=(if bS G so U dn bt p=true then [bt++[p]] else [])++(if bS G so U dn bt p=false\/so p<3 then [bt] else [])
def bM(dn:List Nat)(bts:List (List Nat))(p:Nat):List (List Nat):=bts.flatMap fun b=>gu G so U dn b p
def cu(n:Nat)(dn:List Nat):List Nat:=(List.range n).filter fun p=>! decide (p∈dn)
def jd(dn b ms:List Nat):Bool:=ms.any fun p=>! decide (p∈b)&&bS G so U dn b p
def c5(n:Nat)(dn:List Nat):List (List Nat):=((cu n dn).foldl (bM G so U dn) [[]]).filter fun b=>! jd G so U dn b (cu n dn)
def cS(n:Nat)(dn b:List Nat):List Nat:=(List.range n).filter fun p=>decide (p∈dn) || decide (p∈b)
def ic(acc:List (List Nat×List (List Nat)))(k:List Nat)(v:List (List Nat)):List (List Nat×List (List Nat)):=if k∈acc.map (·.1) then acc else acc++[(k,v)]
def ee(n:Nat)(acc:List (List Nat×List (List Nat)))(w:List Nat×List (List Nat))(bs:List (List Nat)):List (List Nat×List (List Nat)):=bs.foldl (fun acc b=>ic acc (cS n w.1 b) (w.2++[b])) acc
def EF(n:Nat)(ws:List (List Nat×List (List Nat))):List (List Nat×List (List Nat)):=ws.foldl (fun acc w=>ee n acc w (c5 G so U n w.1)) []
def cj(n:Nat):Nat->List (List Nat×List (List Nat))
 |0=>[([],[])]
 |r+1=>EF G so U n (cj n r)
inductive Lay (n:Nat):List (List Nat)->List Nat->Prop
 |nil:Lay n [] []
 |snoc {bss dn b}:Lay n bss dn->b∈c5 G so U n dn->Lay n (bss++[b]) (cS n dn b)
structure Fine(dn ms b:List Nat):Prop where
 sub:b.Sublist ms
 lean:∀p∈b,∀j,j<p->cP G dn b p j=true
 load:∀s,s<3->(fq so b s:Int)<=U s
end
section
variable {G:Nat->Nat->Option Int} {so:Nat->Nat} {U:Nat->Int} {n:Nat}
theorem vU{s:Nat}:fq so (bt++[p]) s=fq so bt s+(if so p=s then 1 else 0):=by unfold fq;rw [List.countP_append];simp [List.countP_cons]
theorem jC{e:List Nat}{j:Nat}(h:cP G dn b p j=true):cP G dn (b++e) p j=true:=by
 unfold cP at *
 split
 ·rfl
 ·rename_i l hl
  rw [hl] at h;simp only [Bool.or_eq_true,Bool.and_eq_true,decide_eq_true_eq,List.mem_append] at *;rcases h with h | ⟨h1,h2⟩
  ·exact .inl h
  ·exact .inr ⟨h1,.inl h2⟩
theorem fits_iff:bS G so U dn bt p=true↔(so p<3->(fq so bt (so p):Int)≠U (so p))/\∀j,j<p->cP G dn bt p j=true:=by
 unfold bS;simp only [Bool.and_eq_true,Bool.not_eq_true',Bool.and_eq_false_iff,decide_eq_false_iff_not,List.all_eq_true,List.mem_range]
 constructor
 ·rintro ⟨h1,h2⟩;exact ⟨fun h=>h1.elim (fun z=>absurd h z) id,h2⟩
 ·rintro ⟨h1,h2⟩;refine ⟨?_,h2⟩
  by_cases h:so p<3
  ·exact .inr (h1 h)
  ·exact .inl h
theorem Fine.mono{ms ms':List Nat}(h:Fine G so U dn ms b)(hs:ms.Sublist ms'):Fine G so U dn ms' b:=⟨h.sub.trans hs,h.lean,h.load⟩
theorem Fine.add{ms:List Nat}(h:Fine G so U dn ms b)(hf:bS G so U dn b p=true):Fine G so U dn (ms++[p]) (b++[p]):=by
 obtain ⟨h1,h2⟩:=fits_iff.mp hf;refine ⟨h.sub.append (List.Sublist.refl _),fun q hq j hj=>?_,fun s hs=>?_⟩
 ·rcases zq18.mp hq with hq | hq
  ·exact jC (h.lean q hq j hj)
  ·rw [zq10.mp hq] at hj ⊢;exact jC (h2 j hj)
 ·rw [vU];have:=h.load s hs
  by_cases e:so p=s
  ·have:=h1 Jlk;rw [zq1 e];rw [e] at this;omega
  ·rw [zq0 e];omega
theorem pB{c:List Nat}(h:c∈gu G so U dn bt p):(bS G so U dn bt p=true/\c=bt++[p])\/c=bt:=by
 unfold gu at h;rcases zq18.mp h with h | h
 ·split at h
  ·exact .inl ⟨by assumption,zq10.mp h⟩
  ·cases h
 ·split at h
  ·exact .inr (zq10.mp h)
  ·cases h
theorem gC{dn:List Nat}:∀(ms pre:List Nat)(bts:List (List Nat)),(∀b∈bts,Fine G so U dn pre b)->∀b∈ms.foldl (bM G so U dn) bts,Fine G so U dn (pre++ms) b
 | [],pre,bts,h,b,hb=>by rw [ix];exact h b hb
 |p::ms,pre,bts,h,b,hb=>by
  have z:=gC ms (pre++[p]) (bM G so U dn bts p) (fun c hc=>by
   obtain ⟨b',hb',hc⟩:=zq120.mp hc;rcases pB hc with ⟨hf,rfl⟩ | rfl
   ·exact (h _ hb').add hf
   ·exact (h _ hb').mono (qO ..)) b hb
  rwa [xx] at z
theorem iE(hU:∀s,s<3->0<U s)(h:b∈c5 G so U n dn):Fine G so U dn (cu n dn) b:=by
 have z:=gC (G:=G) (so:=so) (U:=U) (dn:=dn) (cu n dn) [] [[]] (fun c hc=>by rw [zq10.mp hc];exact ⟨List.Sublist.refl _,fun p hp=>(by cases hp),fun s hs=>by have:=hU s hs;simp [fq];omega⟩) b (zq61.mp h).1
 rwa [xA] at z
theorem wj(h:b∈c5 G so U n dn):∀p∈cu n dn,p∉b->bS G so U dn b p=false:=by intro p hp hb;have z:=(zq61.mp h).2;simp only [Bool.not_eq_true',jd,List.any_eq_false,Bool.and_eq_true,not_and,Bool.not_eq_true',decide_eq_false_iff_not] at z;simpa using z p hp hb
theorem miss_iff:p∈cu n dn↔p<n/\p∉dn:=by unfold cu;rw [zq61,zq40];simp
theorem fz:(cu n dn).Pairwise (· < ·):=List.Pairwise.filter _ Ba
def eU(G:Nat->Nat->Option Int)(so:Nat->Nat)(U:Nat->Int)(dn:List Nat)(b:List Nat)(p:Nat):List Nat:=if bS G so U dn b p=true then b++[p] else b
theorem oV{dn:List Nat}:∀(ms:List Nat)(b:List Nat)(bts:List (List Nat)),b∈bts->ms.foldl (eU G so U dn) b∈ms.foldl (bM G so U dn) bts
 | [],_,_,h=>h
 |p::ms,b,bts,h=>by
  refine oV ms _ _ (zq120.mpr (zn b h ?_));unfold eU gu
  cases hf:bS G so U dn b p<;>simp
theorem jN{dn:List Nat}:∀(ms:List Nat)(b:List Nat),∃e,ms.foldl (eU G so U dn) b=b++e/\∀q∈e,q∈ms
 | [],b=>zn ([]) Jll (fun q hq=>by cases hq)
 |p::ms,b=>by
  obtain ⟨e,h1,h2⟩:=jN ms (eU G so U dn b p);rw [Bb,h1];unfold eU
  split
  ·exact zn (p::e) Jll (fun q hq=>by rcases zq12.mp hq with rfl | hq<;>simp_all)
  ·exact zn e rfl fun q hq=>zq9 _ (h2 q hq)
theorem BS{e:List Nat}{s:Nat}:fq so b s<=fq so (b++e) s:=by unfold fq;rw [List.countP_append];omega
theorem rN(hU:∀s,s<3->0<U s):(cu n dn).foldl (eU G so U dn) []∈c5 G so U n dn:=by
 have hin:=oV (G:=G) (so:=so) (U:=U) (dn:=dn) (cu n dn) [] [[]] Jll;have hfin:=gC (G:=G) (so:=so) (U:=U) (dn:=dn) (cu n dn) [] [[]] (fun c hc=>by rw [zq10.mp hc];exact ⟨List.Sublist.refl _,fun p hp=>(by cases hp),fun s hs=>by have:=hU s hs;simp [fq];omega⟩) _ hin
 refine zq61.mpr ⟨hin,?_⟩;simp only [Bool.not_eq_true',jd,List.any_eq_false,Bool.and_eq_true,not_and,Bool.not_eq_true',decide_eq_false_iff_not];intro p hp hb hf;obtain ⟨pre,post,e⟩:=List.append_of_mem hp;have srt:=fz (n:=n) (dn:=dn);rw [e] at srt hb hf hfin;rw [nQ,Bb] at hb hf hfin;obtain ⟨b0,hb0⟩:∃b0,b0=List.foldl (eU G so U dn) [] pre:=⟨_,rfl⟩
 rw [<- hb0] at hb hf hfin;obtain ⟨e2,h1,h2⟩:=jN (G:=G) (so:=so) (U:=U) (dn:=dn) post (eU G so U dn b0 p);rw [h1] at hb hf hfin;have srt2:=(List.pairwise_append.mp srt).2.1;rw [Bc] at srt2;unfold eU at hb hf hfin
 by_cases hfb:bS G so U dn b0 p=true
 ·rw [zq1 hfb] at hb;exact hb Jll
 ·rw [zq0 hfb] at hf hfin;obtain ⟨f1,f2⟩:=fits_iff.mp hf;refine hfb (fits_iff.mpr ⟨fun hs hc=>?_,fun j hj=>?_⟩)
  ·have a:=hfin.load _ hs;have b:=BS (so:=so) (b:=b0) (e:=e2) (s:=so p);exact f1 hs Jlk
  ·have z:=f2 j hj;unfold cP at z ⊢
   cases hg:G j p with
   |none=>rfl
   |some l=>
    rw [hg] at z;simp only [Bool.or_eq_true,Bool.and_eq_true,decide_eq_true_eq,List.mem_append] at z ⊢;rcases z with z | ⟨z1,z2 | z2⟩
    ·exact .inl z
    ·exact .inr ⟨z1,z2⟩
    ·have:=srt2.1 j (h2 j z2);omega
theorem uf(hU:∀s,s<3->0<U s)(h:b∈c5 G so U n dn)(hm:cu n dn≠[]):b≠[]:=by
 rintro rfl;obtain ⟨p,hp⟩:∃p,p∈cu n dn:=Bd _ hm;have least:∀k p,p<=k->p∈cu n dn->∃q∈cu n dn,∀j,j<q->j∈dn:=by
  intro k
  induction k with
  |zero=>intro p hk hp;exact zn p hp (fun j hj=>Jlk)
  |succ k ih=>
   intro p hk hp
   by_cases ha:∀j,j<p->j∈dn
   ·exact zn p hp ha
   ·have:∃j,j<p/\j∉dn:=by apply qP;intro h';apply ha;intro j hj;apply qP;intro h'';exact h' (zn j hj h'')
    obtain ⟨j,hj,hjd⟩:=this;have:=(miss_iff.mp hp).1;exact ih j Jlk (miss_iff.mpr ⟨Jlk,hjd⟩)
 obtain ⟨q,hq,hall⟩:=least p p (zq5 _) hp;have z:=wj h q hq Jll;have y:bS G so U dn [] q=true:=by
  refine fits_iff.mpr ⟨fun hs hc=>?_,fun j hj=>?_⟩
  ·have:=hU _ hs;simp [fq] at hc;omega
  ·unfold cP
   split
   ·rfl
   ·simp [hall j hj]
 rw [y] at z
 cases z
theorem Cc:p∈cS n dn b↔p<n/\(p∈dn\/p∈b):=by unfold cS;rw [zq61,zq40];simp
def Can(n:Nat)(dn:List Nat):Prop:=dn.Sublist (List.range n)
theorem mF:Can n (cS n dn b):=List.filter_sublist
theorem Can.lt(h:Can n dn)(hp:p∈dn):p<n:=zq40.mp (h.subset hp)
theorem Can.sorted(h:Can n dn):dn.Pairwise (· < ·):=List.Pairwise.sublist h Ba
theorem kz:∀{a b:List Nat},a.Pairwise (· < ·)->b.Pairwise (· < ·)->(∀p,p∈a↔p∈b)->a=b
 | [],[],_,_,_=>rfl
 | [],y::b,_,_,h=>absurd ((h y).mpr Jll) Jll
 |x::a,[],_,_,h=>absurd ((h x).mp Jll) Jll
 |x::a,y::b,ha,hb,h=>by
  rw [Bc] at ha hb;have exy:x=y:=by
   have h1:=(h x).mp Jll;have h2:=(h y).mpr Jll;rcases zq12.mp h1 with e | h1
   ·exact e
   ·rcases zq12.mp h2 with e | h2
    ·exact e.symm
    ·have:=ha.1 y h2;have:=hb.1 x h1;omega
  subst exy;rw [kz ha.2 hb.2 fun p=>?_]
  constructor
  ·intro hp;rcases zq12.mp ((h p).mp (zq9 _ hp)) with e | z
   ·have:=ha.1 p hp;omega
   ·exact z
  ·intro hp;rcases zq12.mp ((h p).mpr (zq9 _ hp)) with e | z
   ·have:=hb.1 p hp;omega
   ·exact z
theorem Can.miss(h:Can n dn)(hne:dn≠List.range n):cu n dn≠[]:=by
 intro e;apply hne;refine kz h.sorted Ba fun p=>⟨fun hp=>zq40.mpr (h.lt hp),fun hp=>?_⟩
 apply qP;intro hd;have:=miss_iff.mpr ⟨zq40.mp hp,hd⟩;rw [e] at this
 cases this
theorem Can.len(h:Can n dn):dn.length<=n:=by have:=h.length_le;rwa [eg] at this
theorem Can.len_lt(h:Can n dn)(hne:dn≠List.range n):dn.length<n:=by
 rcases Nat.lt_or_ge dn.length n with z | z
 ·exact z
 ·exact absurd (h.eq_of_length (by rw [eg];have:=h.len;omega)) hne
theorem Lay.can{bss:List (List Nat)}(h:Lay G so U n bss dn):Can n dn:=by
 cases h with
 |nil=>exact List.nil_sublist _
 |snoc=>exact mF
theorem jV(h:Can n dn)(hb:b.Sublist (cu n dn)):(dn++b).Perm (cS n dn b):=by have hbm:∀p∈b,p<n/\p∉dn:=fun p hp=>miss_iff.mp (hb.subset hp);have nb:b.Nodup:=(List.Pairwise.sublist hb fz).imp fun h=>cF h;have nd:dn.Nodup:=h.sorted.imp fun h=>cF h;have nk:(cS n dn b).Nodup:=(mF (n:=n) (dn:=dn) (b:=b)).sorted.imp fun h=>cF h;have nab:(dn++b).Nodup:=zq75.mpr (zAB nd nb (fun x hx y hy e=>by subst e;exact (hbm x hy).2 hx));refine (List.perm_ext_iff_of_nodup nab nk).mpr fun p=>?_;rw [Cc,zq18];exact ⟨fun z=>⟨z.elim (fun z=>h.lt z) fun z=>(hbm p z).1,z⟩,fun z=>z.2⟩
theorem C6(h:Can n dn)(hb:b.Sublist (cu n dn)):(cS n dn b).length=dn.length+b.length:=by rw [<- (jV h hb).length_eq,zq7]
theorem iN{acc:List (List Nat×List (List Nat))}{k:List Nat}{v:List (List Nat)}{x:List Nat×List (List Nat)}(h:x∈ic acc k v):x∈acc\/x=(k,v):=by
 unfold ic at h
 split at h
 ·exact .inl h
 ·rcases zq18.mp h with h | h
  ·exact .inl h
  ·exact .inr (zq10.mp h)
theorem A9{acc:List (List Nat×List (List Nat))}{k:List Nat}{v:List (List Nat)}:k∈(ic acc k v).map (·.1):=by
 unfold ic
 split
 ·assumption
 ·simp
theorem xg{acc:List (List Nat×List (List Nat))}{k:List Nat}{v:List (List Nat)}{x:List Nat×List (List Nat)}(h:x∈acc):x∈ic acc k v:=by
 unfold ic
 split
 ·exact h
 ·exact iu _ h
theorem sL{acc:List (List Nat×List (List Nat))}{k:List Nat}{v:List (List Nat)}(h:(acc.map (·.1)).Nodup):((ic acc k v).map (·.1)).Nodup:=by
 unfold ic
 split
 ·exact h
 ·rename_i hk
  rw [cg,zq75];exact zAB h Jll (fun x hx y hy e=>by subst e;rw [B4,zq10] at hy;subst hy;exact hk hx)
structure WOk(G:Nat->Nat->Option Int)(so:Nat->Nat)(U:Nat->Int)(n r:Nat)(ws:List (List Nat×List (List Nat))):Prop where
 lay:∀w∈ws,Lay G so U n w.2 w.1/\w.2.length=r
 nodup:(ws.map (·.1)).Nodup
theorem WOk.set{acc:List (List Nat×List (List Nat))}{bss:List (List Nat)}(h:WOk G so U n (r+1) acc)(hl:Lay G so U n bss dn)(hr:bss.length=r)(hb:b∈c5 G so U n dn):WOk G so U n (r+1) (ic acc (cS n dn b) (bss++[b])):=
 ⟨fun w hw=>by
  rcases iN hw with hw | rfl
  ·exact h.lay w hw
  ·exact ⟨hl.snoc hb,by simp [hr]⟩,sL h.nodup⟩
theorem WOk.add{w:List Nat×List (List Nat)}(hl:Lay G so U n w.2 w.1)(hr:w.2.length=r):∀(bs:List (List Nat)) (acc:List (List Nat×List (List Nat))),(∀b∈bs,b∈c5 G so U n w.1)->WOk G so U n (r+1) acc->WOk G so U n (r+1) (ee n acc w bs)
 | [],_,_,h=>h
 |b::bs,acc,hb,h=>WOk.add hl hr bs _ (fun c hc=>hb c (zq9 _ hc)) (h.set hl hr (hb b Jll))
theorem WOk.step:∀(ws acc:List (List Nat×List (List Nat))),(∀w∈ws,Lay G so U n w.2 w.1/\w.2.length=r)->WOk G so U n (r+1) acc->WOk G so U n (r+1) (ws.foldl (fun acc w=>ee n acc w (c5 G so U n w.1)) acc)
 | [],_,_,h=>h
 |w::ws,acc,hw,h=>WOk.step ws _ (fun x hx=>hw x (zq9 _ hx)) (WOk.add (hw w Jll).1 (hw w Jll).2 _ _ (fun _ h=>h) h)
theorem ik:∀r,WOk G so U n r (cj G so U n r)
 |0=>⟨fun w hw=>by rw [cj,zq10] at hw;subst hw;exact ⟨.nil,rfl⟩,by simp [cj]⟩
 |r+1=>WOk.step _ _ (ik r).lay ⟨fun w hw=>(by cases hw),Jll⟩
theorem iA{w x:List Nat×List (List Nat)}:∀(bs:List (List Nat)) (acc:List (List Nat×List (List Nat))),x∈acc->x∈ee n acc w bs
 | [],_,h=>h
 |b::bs,acc,h=>iA bs _ (xg h)
theorem nV{w:List Nat×List (List Nat)}{b:List Nat}:∀(bs:List (List Nat)) (acc:List (List Nat×List (List Nat))),b∈bs->cS n w.1 b∈(ee n acc w bs).map (·.1)
 | [],_,h=>by cases h
 |c::bs,acc,h=>by
  rcases zq12.mp h with rfl | h
  ·obtain ⟨x,hx,e⟩:=zq36.mp (A9 (acc:=acc) (k:=cS n w.1 b) (v:=w.2++[b]));exact zq36.mpr (zn x (iA bs _ hx) e)
  ·exact nV bs _ h
theorem ml{x:List Nat×List (List Nat)}:∀(ws acc:List (List Nat×List (List Nat))),x∈acc->x∈ws.foldl (fun acc w=>ee n acc w (c5 G so U n w.1)) acc
 | [],_,h=>h
 |w::ws,acc,h=>ml ws _ (iA _ _ h)
theorem qr{w:List Nat×List (List Nat)}{b:List Nat}(hb:b∈c5 G so U n w.1):∀(ws acc:List (List Nat×List (List Nat))),w∈ws->cS n w.1 b∈(ws.foldl (fun acc w=>ee n acc w (c5 G so U n w.1)) acc).map (·.1)
 | [],_,h=>by cases h
 |c::ws,acc,h=>by
  rcases zq12.mp h with rfl | h
  ·obtain ⟨x,hx,e⟩:=zq36.mp (nV (n:=n) (w:=w) (c5 G so U n w.1) acc hb);exact zq36.mpr (zn x (ml ws _ hx) e)
  ·exact qr hb ws _ h
theorem vw(hU:∀s,s<3->0<U s):∀r,cj G so U n r≠[]
 |0=>by simp [cj]
 |r+1=>by
  obtain ⟨w,hw⟩:=Bd _ (vw hU r);have z:=qr (rN (G:=G) (so:=so) hU (n:=n) (dn:=w.1)) (cj G so U n r) [] hw;intro e;rw [cj,EF] at e;rw [e] at z
  cases z
theorem qH(hU:∀s,s<3->0<U s):∀r,(∀k,k<r->List.range n∉(cj G so U n k).map (·.1))->∀w∈cj G so U n r,r<=w.1.length
 |0,_,w,_=>cq _
 |r+1,hn,w,hw=>by
  have ih:=qH hU r fun k hk=>hn k Jlk;have hno:=hn r Jlk;have key:∀(ws acc:List (List Nat×List (List Nat))),(∀w∈ws,Can n w.1/\w.1≠List.range n/\r<=w.1.length)->(∀w∈acc,r+1<=w.1.length)->∀w∈ws.foldl (fun acc w=>ee n acc w (c5 G so U n w.1)) acc,r+1<=w.1.length:=by
   intro ws
   induction ws with
   |nil=>intro acc _ h;exact h
   |cons v ws ihw=>
    intro acc h1 h2;refine ihw _ (fun x hx=>h1 x (zq9 _ hx)) ?_;obtain ⟨c1,c2,c3⟩:=h1 v Jll;have inner:∀(bs:List (List Nat)) (acc:List (List Nat×List (List Nat))),(∀b∈bs,b∈c5 G so U n v.1)->(∀w∈acc,r+1<=w.1.length)->∀w∈ee n acc v bs,r+1<=w.1.length:=by
     intro bs
     induction bs with
     |nil=>intro acc _ h;exact h
     |cons b bs ihb=>
      intro acc h3 h4;refine ihb _ (fun c hc=>h3 c (zq9 _ hc)) fun x hx=>?_;rcases iN hx with hx | rfl
      ·exact h4 x hx
      ·have hb:=h3 b Jll;have ne:=uf hU hb (c1.miss c2);have:=zq56.mpr ne;show r+1<=(cS n v.1 b).length;rw [C6 c1 (iE hU hb).sub];omega
    exact inner _ _ (fun _ h=>h) h2
  exact key _ _ (fun x hx=>zAB ((ik r).lay x hx).1.can (fun e=>hno (zq36.mpr (zn x hx e))) (ih x hx)) (fun _ h=>by cases h) w hw
theorem Di(hU:∀s,s<3->0<U s)(hn:∀k,k<=r->List.range n∉(cj G so U n k).map (·.1)):r<n:=by obtain ⟨w,hw⟩:=Bd _ (vw (G:=G) (so:=so) (U:=U) (n:=n) hU r);have h1:=qH hU r (fun k hk=>hn k Jlk) w hw;have h2:=((ik r).lay w hw).1.can.len_lt fun e=>hn r (zq5 _) (zq36.mpr (zn w hw e));omega
theorem iG{dn:List Nat}:∀(bts:List (List Nat)) (p:Nat),(bM G so U dn bts p).length<=2 * bts.length
 | [],_=>by simp [bM]
 |b::bts,p=>by
  have:=iG (dn:=dn) bts p;have h1:(gu G so U dn b p).length<=2:=by
   unfold gu;rw [zq7];have a:(if bS G so U dn b p=true then [b++[p]] else []).length<=1:=by split<;>simp
   have c:(if bS G so U dn b p=false\/so p<3 then [b] else []).length<=1:=by split<;>simp
   omega
  unfold bM at *;rw [List.flatMap_cons,zq7,cW];omega
theorem jO{dn:List Nat}:∀(ms:List Nat)(bts:List (List Nat)),(ms.foldl (bM G so U dn) bts).length<=2 ^ ms.length * bts.length
 | [],bts=>by simp
 |p::ms,bts=>by
  have a:=jO (dn:=dn) ms (bM G so U dn bts p);have b:=iG (G:=G) (so:=so) (U:=U) (dn:=dn) bts p;rw [Bb,cW,B7]
  calc _<=_:=a
   _<=2 ^ ms.length * (2 * bts.length):=Nat.mul_le_mul_left _ b
   _=_:=by rw [Nat.mul_assoc]
def sN:List Nat->List (List Nat)
 | []=>[[]]
 |x::xs=>sN xs++(sN xs).map (x::·)
theorem qw:∀xs,(sN xs).length=2 ^ xs.length
 | []=>rfl
 |x::xs=>by rw [sN,zq7,zq3,qw xs,cW,B7];omega
theorem jW:∀{xs ys:List Nat},ys.Sublist xs->ys∈sN xs
 |_,_,.slnil=>by simp [sN]
 |_,_,.cons _ h=>iu _ (jW h)
 |_,_,.cons₂ _ h=>d5 _ (zq36.mpr (zn _ (jW h) rfl))
theorem lU{α:Type}[DecidableEq α]:∀{L M:List α},L.Nodup->(∀x∈L,x∈M)->L.length<=M.length
 | [],M,_,_=>cq _
 |x::L,M,h,hm=>by rw [zq34] at h;have z:=lU (M:=M.erase x) h.2 fun y hy=>(List.mem_erase_of_ne (fun e=>h.1 (by rw [<- e];exact hy))).mpr (hm y (zq9 _ hy));rw [List.length_erase_of_mem (hm x Jll)] at z;have:=List.length_pos_of_mem (hm x Jll);rw [cW];omega
theorem WOk.len{ws:List (List Nat×List (List Nat))}(h:WOk G so U n r ws):ws.length<=2 ^ n:=by
 have z:=lU (M:=sN (List.range n)) h.nodup fun k hk=>by obtain ⟨w,hw,e⟩:=zq36.mp hk;rw [<- e];exact jW (h.lay w hw).1.can
 rwa [zq3,qw,eg] at z
end
end GD
section
open PySem PySem.Spec PyProof.Rows
namespace L2
variable {d:Addr}
section
variable {prog:Program} {w:World} {A:Around} {E:Value->Shared->Prop} {s:Shared}
theorem pY{κ:Type}[DecidableEq κ]{knd:HeapKind prog w κ}{a:Addr}{xs:List (κ×Addr×Value)}{k:κ}{v:Value}{Q:Value->Shared->Prop}(hu:knd.room A)(hkey:knd.is s.heap k a)(hm:s.heap.DictOfH knd d xs)
 (h1:∀p,atKey xs k=some p->Q p.2 {s with toks:=s.toks+knd.draws k})
 (h2:atKey xs k=none->∀h',h'.DictOfH knd d (xs++[(k,a,v)])->Heap.SameBut d s.heap h'->Q v {s with heap:=h',toks:=s.toks+knd.draws k})
 (hsz:xs.length<=sizeLine):wpAny (model prog w) A (dictSetDefault d (.ref a) v) Q E s:=by
 obtain ⟨o,es,ep,ho,hc,hd,he,his,hn⟩:=hm;unfold dictSetDefault
 try with_reducible refine qV ?_
 refine zq2 (knd.pyHash hu hkey (zq2 (wpAny_dictFind_heap (s:={s with toks:=s.toks+knd.draws k}) hu hkey ho hd he his hn ?_ ?_)))
 ·intro hno;have hat:=atKey_none_of_get hno;have hnot:=not_mem_keys_of_get hno;refine zq2 (wpAny_rule (zq2 (wpAny_updateDictKeys (hz:=by have e:=size_of_entries he;omega) (s:={s with toks:=s.toks+knd.draws k}) ho hd (zq4 (h2 hat _ ⟨_,_,ep+1,AY _ ho (Obj.isFreed_of_dict (Obj.data_mapDictKeys hd _)),
   hc.mapDictKeys _,Obj.data_mapDictKeys hd _,by simp [he,entryOfKey],fun x hx=>?_,?_⟩ (Heap.SameBut.update ..))))))
  ·rcases zq18.mp hx with hx | hx
   ·exact knd.keeps (his x hx) ho hd (Heap.SameBut.update ..)
   ·rw [zq10.mp hx];exact knd.keeps hkey ho hd (Heap.SameBut.update ..)
  ·rw [cg,zq75];refine zAB hn Jll fun x hx y hy e=>?_;simp only [List.map_cons,List.map_nil,List.mem_singleton] at hy;subst hy;exact hnot (e ▸ hx)
 ·intro j p hj;have hat:=atKey_of_get hn hj;refine zq2 (wpAny_dictEntries (s:={s with toks:=s.toks+knd.draws k}) ho hd ?_);rw [entry_at he j,hj];exact zq2 (wpAny_rule (zq4 (h1 p hat)))
theorem gx{κ:Type}[DecidableEq κ](knd:HeapKind prog w κ)(d a:Addr)(hd:(d==sysModules)=false)(dflt:Value):
  MeetsIn prog w (Builtin.«dict.setdefault» ⟨[.ref d,.ref a,dflt],[]⟩) (fun A R s=>knd.room A.in1/\∃k xs,knd.is s.heap k a/\s.heap.DictOfH knd d xs/\xs.length<=sizeLine/\
   (∀p,atKey xs k=some p->R (.ok (.ret p.2)) {s with toks:=s.toks+knd.draws k})/\
   (atKey xs k=none->∀h',h'.DictOfH knd d (xs++[(k,a,dflt)])->Heap.SameBut d s.heap h'->R (.ok (.ret dflt)) {s with heap:=h',toks:=s.toks+knd.draws k})):=
 .of_wp fun A R s ⟨hu,k,xs,hkey,hm,hz,h1,h2⟩=>by unfold Builtin.«dict.setdefault»;refine zq2 ?_;unfold Builtin.Dict.keyAndDefault;refine zq2 (wpAny_notOrdered_dict hm.typeIs ?_);show wpAny _ _ (pure (d,Value.ref a,some dflt)) _ _ s;refine zq4 ?_;show wpAny _ _ (if (d==sysModules)=true then _ else (dictSetDefault d (.ref a) dflt >>= _)) _ _ s;rw [zq0 (by rw [hd];exact bw)];exact zq2 (pY (hsz:=hz) hu hkey hm (fun p hp=>zq4 (zn p.2 rfl (h1 p hp))) fun hn h' hm' hs'=>zq4 (zn dflt rfl (h2 hn h' hm' hs')))
theorem ou{od:Obj}{Q:Value->Shared->Prop}(hd:(d==sysModules)=false)(hod:s.heap.get? d=some od)(hx:od.ExactDict)
 (h:Q (.ref s.heap.objs.size) {s with heap:=s.heap.push {cls:=.type "dict_items",data:=.fields #[.ref d]}}):wpAny (model prog w) A (call (.builtin "dict.items") [.ref d]) Q E s:=by
 have hT:s.TypeIs (.ref d) "dict":=zn od hod hx.1
 have M:MeetsIn prog w (Builtin.«dict.items» ⟨[.ref d],[]⟩) (fun _ R s=>s.TypeIs (.ref d) "dict"/\R (.ok (.ret (.ref s.heap.objs.size))) {s with heap:=s.heap.push {cls:=.type "dict_items",data:=.fields #[.ref d]}}):=.of_wp fun A R s ⟨hT,h⟩=>by unfold Builtin.«dict.items»;refine zq2 ?_;unfold Builtin.Dict.noArgs;refine zq2 (wpAny_notOrdered_dict hT ?_);show wpAny _ _ (pure d) _ _ s;refine zq4 ?_;show wpAny _ _ (Builtin.Dict.showsAll d >>= _) _ _ s;unfold Builtin.Dict.showsAll;rw [zq0 (by rw [hd];exact bw)];refine zq2 (zq4 ?_);exact zq2 (wpAny_newObj_type (zq4 (zn _ rfl h)))
 exact call_meetsIn PySem.F.slot_dict_items hT PySem.F.entry_dict_items (PySem.F.args_dict_items_1 _) M ⟨hT,h⟩
theorem pe{v d:Addr}{od:Obj}{es:Array DictEntry}{ep:Nat}{Q:Value->Shared->Prop}(hv:s.heap.IsItemsView v d)(ho:s.heap.get? d=some od)(hd:od.data=.dict es ep)
  (hQ:Q (.ref s.heap.objs.size) {s with heap:=s.heap.push {cls:=.type "dict_itemiterator",data:=.fields #[.none,.bool false,.ref d,.int 0 0,.int es.size 0,.int ep 0,.none,.none]}}) :
  wpAny (model prog w) A (pyIter (.ref v)) Q E s:=by
 obtain ⟨ov,hov,hcv,hdv⟩:=id hv;refine wpAny_pyIter_slot hv.typeIs F.slot_dict_items_iter (wpAny_call_entry F.slot_dict_items_iter hv.typeIs F.entry_dict_items_iter ?_ (F.args_dict_items_iter_1 _));unfold Builtin.«dict_items.__iter__»;refine zq2 (zq4 (zq2 ?_));unfold Builtin.Dict_items.dictOf;refine zq2 (wpAny_field hov hdv (x:=.ref d) rfl (zq4 (zq2 ?_)));unfold Builtin.Dict_items.newIterator;refine zq2 (wpAny_dictEntries ho hd (zq2 (wpAny_dictEpoch ho hd ?_)));rw [show Builtin.Dict_items.ownsTuple "dict_itemiterator"=true by decide];simp only [if_true];refine wpAny_newObj_type (zq4 (zn _ rfl (zAA ("dict_itemiterator") _ (zn _ (du _ rfl) rfl) F.slot_dict_itemiterator_next.lookup ?_)))
  (by simp only [sizeOk,Builtin.Dict_items.ownedTupleFields,List.size_toArray,List.length_append,List.length_cons,List.length_nil,sizeLine_eq];omega)
 simpa [rawInt,Builtin.Dict_items.ownedTupleFields] using hQ
theorem pH{it d:Addr}{i ep:Nat}{od:Obj}{es:Array DictEntry}{en:DictEntry}{ok ov:Value}{Q:Option Value->Shared->Prop}(hit:IsItemIter s.heap it d i es.size ep ok ov)
  (hod:s.heap.get? d=some od) (hdd:od.data=.dict es ep) (hx:es[i]?=some en)
  (hQ:∀h',IsItemIterOut h' it d (i+1) es.size ep en.key en.val s.heap.objs.size->h'.get? s.heap.objs.size=some {cls:=.type "tuple",data:=.seq #[en.key,en.val]}->h'.objs.size=s.heap.objs.size+1->
   (∀b o,b≠it->s.heap.get? b=some o->h'.get? b=some o)->Q (some (.ref s.heap.objs.size)) {s with heap:=h'}) :
  wpAny (model prog w) A (pyNext (.ref it)) Q E s:=by
 obtain ⟨hp,g,dr,tk,os⟩:=s;have hT:Shared.TypeIs ⟨hp,g,dr,tk,os⟩ (.ref it) "dict_itemiterator":=zn _ hit rfl
 have hown:Builtin.Dict_items.ownsTuple "dict_itemiterator"=true:=by decide
 have hlt:i<es.size:=(Array.getElem?_eq_some_iff.mp hx).1;unfold pyNext;refine zq2 (wpAny_attempt (wpAny_callSpecial?_slot (name:=Str.ofString "__next__") hT F.slot_dict_itemiterator_next (wpAny_call_entry F.slot_dict_itemiterator_next hT F.entry_dict_itemiterator_next ?_ (F.args_dict_itemiterator_next_1 _))));refine zq2 (zq4 (zq2 (zq2 ?_)))
 first | refine zq2 (wpAny_typeNameOfWhole_itemiter hT (zq4 ?_)) | refine zq2 (wpAny_typeNameOf_itemiter hT (zq4 ?_))
 refine zq2 (wpAny_fieldsOf hit rfl ?_);simp only [hown,if_true];show wpAny _ _ (if (Value.ref d==Value.none)=true then _ else _) _ _ _;rw [zq0 (show ¬((Value.ref d==Value.none)=true) from bw)];refine zq2 (zq4 (zq2 (wpAny_dictEntries hod hdd ?_)));rw [zq0 Jll];refine zq2 (zq4 (zq2 (wpAny_dictEpoch hod hdd ?_)));rw [zq0 Jll];refine zq4 ?_;simp only [show ¬((i:Int)<0) from by omega,if_false,Int.toNat_natCast,hx];refine zq2 ?_
 first | refine zq2 (wpAny_typeNameOfWhole_itemiter hT (zq4 ?_)) | refine zq2 (wpAny_typeNameOf_itemiter hT (zq4 ?_))
 refine zq2 (wpAny_isOneOf_itemiter hT ?_);show wpAny _ _ (setField (.ref it) 3 (rawInt ((i:Int)+1)) >>= _) _ _ ⟨hp,g,dr,tk,os⟩;refine zq2 (wpAny_setField_rec hit Jll fun h₁ he₁ hs₁=>?_);replace hs₁:Heap.SameBut it hp h₁:=hs₁;replace he₁:IsItemIter h₁ it d (i+1) es.size ep ok ov:=by
  have e:((i+1:Nat):Int)=(i:Int)+1:=by omega
  unfold IsItemIter;rw [e];simpa [rawInt] using he₁
 have hT₁:Shared.TypeIs ⟨h₁,g,dr,tk,os⟩ (.ref it) "dict_itemiterator":=zn _ he₁ rfl
 refine zq2 (qV (zq2 (wpAny_isOneOf_itemiter hT₁ (zq2 (wpAny_isOneOf_itemiter hT₁ ?_)))));show wpAny _ _ (Builtin.Dict_items.pairFromOwner (.ref it) 6 en.key en.val) _ _ ⟨h₁,g,dr,tk,os⟩;unfold Builtin.Dict_items.pairFromOwner;refine zq2 (wpAny_newTuple ?_);have he₂:IsItemIter (h₁.push {cls:=.type "tuple",data:=.seq #[en.key,en.val]}) it d (i+1) es.size ep ok ov:=cc _ he₁;have hz₁:h₁.objs.size=hp.objs.size:=hs₁.1;have hil:it<hp.objs.size:=bT hit;have ht₂:(h₁.push {cls:=.type "tuple",data:=.seq #[en.key,en.val]}).get? hp.objs.size=some {cls:=.type "tuple",data:=.seq #[en.key,en.val]}:=by rw [<- hz₁];exact du _ rfl
 have hz₂:(h₁.push {cls:=.type "tuple",data:=.seq #[en.key,en.val]}).objs.size=hp.objs.size+1:=by rw [kU,hz₁]
 have hk₂:∀b o,b≠it->hp.get? b=some o->(h₁.push {cls:=.type "tuple",data:=.seq #[en.key,en.val]}).get? b=some o:=fun b o hb e=>cc _ (hs₁.extBut b o hb e);generalize h₁.push {cls:=.type "tuple",data:=.seq #[en.key,en.val]}=h₂ at he₂ ht₂ hz₂ hk₂ ⊢;show wpAny _ _ (Builtin.Dict_items.ownedTupleIsFree (.ref it) >>= _) _ _ ⟨h₂,g,dr,tk,os⟩;rw [hz₁];clear he₁ hs₁ hT₁ hz₁ h₁;refine zq2 ?_;unfold Builtin.Dict_items.ownedTupleIsFree;refine zq2 (wpAny_field he₂ rfl (x:=.none) rfl (zq4 ?_));simp only [if_true];refine zq2 (wpAny_field he₂ rfl (x:=ok) rfl (zq2 (wpAny_field he₂ rfl (x:=ov) rfl ?_)));refine zq2 (wpAny_setField_rec he₂ Jll fun h₃ he₃ hs₃=>?_);replace hs₃:Heap.SameBut it h₂ h₃:=hs₃;replace he₃:IsItemIter h₃ it d (i+1) es.size ep en.key ov:=he₃;refine zq2 (wpAny_setField_rec he₃ Jll fun h₄ he₄ hs₄=>?_);replace hs₄:Heap.SameBut it h₃ h₄:=hs₄;replace he₄:IsItemIter h₄ it d (i+1) es.size ep en.key en.val:=he₄;refine zq2 (wpAny_setField_rec he₄ Jll fun h₅ he₅ hs₅=>?_);replace hs₅:Heap.SameBut it h₄ h₅:=hs₅;replace he₅:IsItemIterOut h₅ it d (i+1) es.size ep en.key en.val hp.objs.size:=he₅;refine zq2 (wpAny_setField_rec he₅ Jll fun h₆ he₆ hs₆=>?_);replace hs₆:Heap.SameBut it h₅ h₆:=hs₆;replace he₆:IsItemIterOut h₆ it d (i+1) es.size ep en.key en.val hp.objs.size:=he₆;have kp:∀b o,b≠it->h₂.get? b=some o->h₆.get? b=some o:=fun b o hb e=>hs₆.extBut b o hb (hs₅.extBut b o hb (hs₄.extBut b o hb (hs₃.extBut b o hb e)));refine zq2 (wpAny_letGo (zq4 (zq4 (zn _ rfl (zq4 (hQ h₆ he₆ (kp _ _ (xt hil) ht₂) ?_ fun b o hb e=>kp b o hb (hk₂ b o hb e)))))));show h₆.objs.size=hp.objs.size+1;rw [hs₆.1,hs₅.1,hs₄.1,hs₃.1,hz₂]
theorem rG{it:Addr}{i ep:Nat}{od:Obj}{es:Array DictEntry}{ok ov:Value}{Q:Option Value->Shared->Prop}(hh:A.handled=none)(hit:IsItemIter s.heap it d i es.size ep ok ov)
 (hod:s.heap.get? d=some od) (hdd:od.data=.dict es ep) (hx:es.size<=i)
 (hQ:∀h',Heap.ExtBut it s.heap h'->Q none {s with heap:=h'}):wpAny (model prog w) A (pyNext (.ref it)) Q E s:=by
 have hT:s.TypeIs (.ref it) "dict_itemiterator":=zn _ hit rfl
 have hown:Builtin.Dict_items.ownsTuple "dict_itemiterator"=true:=by decide
 unfold pyNext;refine zq2 (wpAny_attempt (wpAny_callSpecial?_slot (name:=Str.ofString "__next__") hT F.slot_dict_itemiterator_next (wpAny_call_entry F.slot_dict_itemiterator_next hT F.entry_dict_itemiterator_next ?_ (F.args_dict_itemiterator_next_1 _))));refine zq2 (zq4 (zq2 (zq2 ?_)))
 first | refine zq2 (wpAny_typeNameOfWhole_itemiter hT (zq4 ?_)) | refine zq2 (wpAny_typeNameOf_itemiter hT (zq4 ?_))
 refine zq2 (wpAny_fieldsOf hit rfl ?_);simp only [hown,if_true];show wpAny _ _ (if (Value.ref d==Value.none)=true then _ else _) _ _ s;rw [zq0 (show ¬((Value.ref d==Value.none)=true) from bw)];refine zq2 (zq4 (zq2 (wpAny_dictEntries hod hdd ?_)));rw [zq0 Jll];refine zq2 (zq4 (zq2 (wpAny_dictEpoch hod hdd ?_)));rw [zq0 Jll];refine zq4 ?_;simp only [show ¬((i:Int)<0) from by omega,if_false,Int.toNat_natCast,Array.getElem?_eq_none hx];refine zq2 ?_
 first | refine zq2 (wpAny_typeNameOfWhole_itemiter hT (zq4 ?_)) | refine zq2 (wpAny_typeNameOf_itemiter hT (zq4 ?_))
 show wpAny _ _ (setField (.ref it) 2 .none >>= _) _ _ s;refine zq2 (wpAny_setField hit rfl Jll ?_);show wpAny _ _ (newExc (.type "StopIteration") [] >>= _) _ _ _;refine zq2 ?_;simp only [newExc,newTuple];refine zq2 (wpAny_newObj_type ?_ (by size_fits));refine zq2 (m:=firstArgMember _ _) (wpAny_of_eq (a:=Value.none) (by first | rfl | (simp only [firstArgMember];rfl)) ?_);refine wpAny_newObj_type ?_ (by size_fits);simp only [raiseNew];refine zq2 (wpAny_handled ?_);rw [show A.in1.handled=none from hh];refine zq2 (zq4 (wpAny_throw ?_));refine zq2 (wpAny_isInstance (T:="StopIteration") (b:=true) ⟨_,du _ rfl,rfl⟩ isSubtype_stop ?_);exact zq4 (hQ _ (((Heap.SameBut.update ..).extBut.push _).push _))
end
end L2
namespace L2
variable {H:Hp} {Q:VK} {σ:St}
def my(d:Addr)(o:Obj)(kvs:List (List Key×V)):It:=
  ⟨fun i H=>H d=some (.frz o (.dT kvs))/\i<kvs.length,
   fun i H x H'=>∃p k b v,x=.ref p/\H p=none/\H'=upd H p (.tup [.ref b,v])/\kvs[i]?=some (k,v)/\H b=some (.tup (k.map kV)),
   fun i H=>H d=some (.frz o (.dT kvs))/\kvs.length<=i⟩
theorem Paired.at{α β:Type}{F:α->β->Prop}:∀{l:List α} {m:List β} {i:Nat} {x:α},Paired F l m->l[i]?=some x->∃y,m[i]?=some y/\F x y
 |_,_,_,_,.nil,e=>by simp at e
 |_,_,0,_,.cons r _,e=>by simp at e;subst e;exact zn _ rfl r
 |_,_,i+1,x,.cons _ t,e=>by obtain ⟨u,h1,h2⟩:=Paired.at (i:=i) (x:=x) t (by simpa using e);exact zn u (by simpa using h1) h2
theorem yk{P:Program}{w:World}{H:Hp}{h:Heap}{d:Addr}{o:Obj}{kvs:List (List Key×V)}(ok:HOk P w H h)(e:H d=some (.frz o (.dT kvs))){es:Array DictEntry}{ep:Nat}(ho:o.data=.dict es ep):
  h.get? d=some o/\es.size=kvs.length/\∀(i:Nat)(k:List Key)(v:V),kvs[i]?=some (k,v)->∃(hs:Int)(b:Addr)(u:Value),es[i]?=some (⟨hs,.ref b,u⟩:DictEntry)/\H b=some (.tup (k.map kV))/\RelV v u:=by
 obtain ⟨e1,z,hd,xs,rel,o',es',ep',e2,ex,hdat,hes,hn⟩:=ok d _ e;rw [e1] at e2
 cases e2
 rw [ho] at hdat
 cases hdat
 refine zAB e1 ((size_of_entries hes).trans (Paired.length rel).symm) fun i k v hk=>?_;obtain ⟨⟨k',b,u⟩,hx,h1,h2,h3⟩:=Paired.at rel hk;refine zAN ((tupleKind (bi P w)).hash k') b u ?_ h2 h3;rw [entry_at hes i,hx];rfl
theorem rH:entryFor table "dict_itemiterator.__iter__"=some Builtin.«dict_keyiterator.__iter__»:=entryFor_alias (id':="dict_keyiterator.__iter__") Jkl rfl Jkk Jkl
theorem ww{prog:Program}{w:World}{A:Around}{E:Value->Shared->Prop}{s:Shared}{it d:Addr}{i n ep:Nat}{ok ov:Value}{Q:Value->Shared->Prop}(he:IsItemIter s.heap it d i n ep ok ov)(h:Q (.ref it) s):wpAny (model prog w) A (pyIter (.ref it)) Q E s:=by
 have hT:s.TypeIs (.ref it) "dict_itemiterator":=zn _ he rfl
 refine wpAny_pyIter_slot hT F.slot_dict_itemiterator_iter (wpAny_call_entry F.slot_dict_itemiterator_iter hT rH ?_ (F.args_dict_itemiterator_iter_1 _));show wpAny _ _ (ret (.ref it)) _ _ s;exact zq4 (zn _ rfl (zAA ("dict_itemiterator") _ hT F.slot_dict_itemiterator_next.lookup h))
theorem sS{P:Program}{w:World}{K:W.Frag}{elts:List Expr}{k0:Nat}{pos0:Pos}(d it:Addr)(o:Obj){es:Array DictEntry}{ep:Nat}(ho:o.data=.dict es ep)(kvs:List (List Key×V)):
  kM P w K (.Tuple elts k0 pos0) (my d o kvs) [it] it (fun i h=>∃ok ov,IsItemIter h it d i es.size ep ok ov) where
 mem:=by simp
 obj:=fun i h ⟨ok,ov,he⟩ b hb=>by
  have e:b=it:=by simpa using hb
  subst e;exact ⟨_,he,fun v z=>by
   have z':Data.fields _=Data.cell v:=z
   cases z'⟩
 keep:=fun i h h' ⟨ok,ov,he⟩ k=>zAH ok ov (k it Jll _ he)
 item:=by
  intro X hP hw hK hc i pins s σ H E I hf st hg;subst hP hw hK;obtain ⟨ok,ov,he⟩:=st;obtain ⟨hg1,hi⟩:=hg;obtain ⟨hd,hsz,hat⟩:=yk I.hok hg1 ho;obtain ⟨⟨k,v⟩,hk⟩:∃p,kvs[i]?=some p:=⟨_,zq6 hi⟩
  obtain ⟨hs0,b,u,hen,hb,ru⟩:=hat i k v hk;obtain ⟨f0,f1,f2,f3,f4,f5⟩:=hf it Jll;refine pH he hd ho hen fun h1 ho1 hT hz1 hk1=>?_;refine zn _ rfl (wpAny_letOwnedTupleGo_items ho1 fun h2 he2 hs2=>?_);replace hs2:Heap.SameBut it h1 h2:=hs2;have hlt:it<s.heap.objs.size:=bT he;have hk2:∀b o,b≠it->s.heap.get? b=some o->h2.get? b=some o:=fun b o b1 q=>(hs2.2 b b1).trans (hk1 b o b1 q);have hT2:h2.get? s.heap.objs.size=some {cls:=.type "tuple",data:=.seq #[.ref b,u]}:=(hs2.2 _ (xt hlt)).trans hT;have hn:H s.heap.objs.size=none:=I.hok.fresh (zq5 _);have nE:∀b v,H b=some v->b≠it:=fun b v q z=>by rw [z,f0] at q;cases q
  have ok2:HOk X.prog X.w H h2:=fun b v q=>(I.hok b v q).stay (fun c v' hc r=>by
   rcases hc with z | z
   ·exact hk2 c v' (by rw [z];exact nE b v q) r
   ·exact hk2 c v' (nE c _ z) r) (fun _ r=>r) fun _ _ r=>r
  have ok3:HOk X.prog X.w (upd H s.heap.objs.size (.tup [.ref b,v])) h2:=fun c w' q=>by
   by_cases hb':c=s.heap.objs.size
   ·subst hb';rw [ac] at q
    cases q
    exact ⟨by show 2<=sizeLine;decide,zn ([.ref b,u]) (.cons rfl (.cons ru .nil)) (zAC _ hT2 rfl ⟨_,rfl⟩)⟩
   ·rw [ao hb'] at q;exact (ok2 c w' q).stay (fun c v' _ r=>r) (fun c r=>by rw [ao (am r hn)];exact r) fun c ys r=>by rw [ao (am r hn)];exact r
  have nlt:∀{b:Addr} {o:Obj},s.heap.get? b=some o->b≠s.heap.objs.size:=fun q=>cF (bT q);have I2:Inv X pins σ (upd H s.heap.objs.size (.tup [.ref b,v])) {s with heap:=h2,toks:=s.toks}:=
   I.step (g':=s.gens) (d':=s.drawn) (ch:=[it]) (fun b hb=>by rw [zq10.mp hb];exact zAF f3 f1 f4 f5)
    (fun b o _ _ hc q _=>hk2 b o (fun z=>hc (by simp [z])) q)
    (fun b o _ _ hc q _=>⟨o.slots,hk2 b o (fun z=>hc (by simp [z])) q⟩)
    (fun b o _ q n=>by rw [ao (nlt q)];exact n)
    (fun b o hc q=>⟨o,hk2 b o (fun z=>hc (by simp [z])) q⟩)
    (fun b ys q=>by rw [ao (am q hn)];exact q) (fun b o v q=>by rw [ao (am q hn)];exact q) (fun b ps q=>⟨#[],by rw [ao (am q hn),q];simp⟩)
    (fun m ⟨o,es,ep,hm,r⟩=>zAK o es ep (hk2 _ o (Ne.symm f1) hm) r) ok3 I.bare
  refine zAR (.ref s.heap.objs.size) _ I2 rfl (zAM _ k b v rfl hn rfl hk hb) (zAH _ _ he2) fun c hc=>?_;rw [zq10.mp hc,ao (cF hlt)];exact f0
 done:=by intro X hP hw hK hc i pins s σ H E I hf st hg;subst hP hw hK;obtain ⟨ok,ov,he⟩:=st;obtain ⟨hg1,hi⟩:=hg;obtain ⟨hd,hsz,hat⟩:=yk I.hok hg1 ho;obtain ⟨f0,f1,f2,f3,f4,f5⟩:=hf it Jll;exact rG (I.ok.hd hc) he hd ho Jlk fun h' eb=>⟨rfl,I.turned (t':=s.toks) (fun b o hb e=>eb b o hb e) f0 f1 f3 f4 f5⟩
 self:=fun _ _ _ _ _ ⟨_,_,he⟩ h=>ww he h
def mP(td:TE):TI:=fun σ H R=>td σ H fun x H1=>∃a kvs,x=.ref a/\H1 a=some (.dT kvs)/\∀o,R (my a o kvs) (upd H1 a (.frz o (.dT kvs)))
theorem wV{X:Cx}{o:Expr}{td:TE}{apos pos pos0:Pos}{elts:List Expr}{k0:Nat}(ho:PE X o td)(hbase:attributeBase o "items" X.env (eval o X.env)=eval o X.env:=by rfl) (hline:(apos.endLine==pos.line)=true:=by rfl) :
  PI X (.Tuple elts k0 pos0) (.Call (.Attribute o "items" apos) [] [] pos) (mP td):=by
 intro pins s σ H R I h;refine wpAny_Call_method0_late hbase hline (thn (ho pins s σ H _ I h) fun v s1 hhx=>?_);obtain ⟨x,H1,I1,r1,a,kvs,ex,e,q1⟩:=hhx;subst ex
 cases r1
 obtain ⟨h1,h2⟩:=sX (T:="dict") I1 (show RelV (.ref a) (.ref a) from rfl) (.inr (.inr (.inl ⟨rfl,.inr ⟨kvs,e⟩⟩)));refine zBB ("dict") _ PySem.F.plainAttrs_dict PySem.F.slot_dict_items PySem.F.type_dict_items h1 h2 (Calls.callWith_builtin rfl (PySem.evalArgs_none ?_));have okd:=I1.hok a _ e;obtain ⟨z,hd,xs,rel,od,es,ep,g1,g2,g3,g4,g5⟩:=id okd;refine ou hd g1 g2 ?_;refine pe (es:=es) (ep:=ep) (zAC _ (du _ rfl) rfl rfl) (cc _ g1) g3 ?_;have I2:Inv X pins σ (upd H1 a (.frz od (.dT kvs))) {s1 with heap:=s1.heap,toks:=s1.toks}:=I1.write (x:=a) (e:=a) (by rw [e];exact True.intro) (.inl rfl) (fun b u _ q=>q) ⟨od,g1⟩ ⟨g1,okd.stay (fun _ _ _ q=>q) (fun b q=>by rw [ao (bL q e (fun z=>nomatch z))];exact q) fun b ys q=>by rw [ao (bL q e (fun z=>nomatch z))];exact q⟩
 have I3:=I2.kept (h':=s1.heap.push {cls:=.type "dict_items",data:=.fields #[.ref a]}) (t':=s1.toks) fun b o e=>cc _ e;refine zAZ _ ([_]) _ _ _ rfl (I3.kept (t':=s1.toks) fun b o e=>cc _ e) (sS a _ od g3 kvs) (zAH _ _ (du _ rfl)) (fun b hb=>?_) (q1 od);rw [zq10.mp hb];exact I3.fpOk (zq5 _) (I3.hok.fresh (zq5 _))
theorem tm{X:Cx}{o:Expr}{td:TE}{apos pos pos0:Pos}{elts:List Expr}{k0:Nat}(ho:XE X o td)(hbase:attributeBase o "items" X.env (eval o X.env)=eval o X.env:=by rfl) (hline:(apos.endLine==pos.line)=true:=by rfl) :
  XI X (.Tuple elts k0 pos0) (.Call (.Attribute o "items" apos) [] [] pos) (mP td):=⟨wV ho.h hbase hline⟩
theorem wY{td:TE}{R:It->Hp->Prop}:mP td σ H R=td σ H fun x H1=>∃a kvs,x=.ref a/\H1 a=some (.dT kvs)/\∀o,R (my a o kvs) (upd H1 a (.frz o (.dT kvs))):=rfl
theorem ym{d:Addr}{o:Obj}{kvs:List (List Key×V)}{g:TG}{tb:TS}{D:de}(Pv:Nat->St->Hp->Prop)(h0:Pv 0 σ H)(hl:∀i σ H,i<=kvs.length->Pv i σ H->H d=some (.frz o (.dT kvs)))
 (hs:∀(i:Nat)k v b σ H p,kvs[i]?=some (k,v)->H b=some (.tup (k.map kV))->H p=none->Pv i σ H->g (.ref p) σ (upd H p (.tup [.ref b,v])) fun σ2 H2=>tb {D with nx:=Pv (i+1),ct:=Pv (i+1),bk:=D.nx} σ2 H2) (hd:∀σ H,Pv kvs.length σ H->D.nx σ H):nU (my d o kvs) g tb D σ H:=by
 refine zn (fun i m σ H=>m=kvs.length-i/\i<=kvs.length/\Pv i σ H) (zAC kvs.length Jll (cq _) h0) ?_;rintro i m σ H ⟨rfl,hi,p⟩;have q:=hl i σ H hi p
 by_cases hlt:i<kvs.length
 ·refine .inr ⟨⟨q,hlt⟩,zn (Pv (i+1)) (fun σ' H' p'=>zAG (kvs.length-(i+1)) Jlk rfl hlt p') fun x H' y=>?_⟩;obtain ⟨pp,k,b,v,ex,hn,eH,hk,hb⟩:=y;subst ex eH;exact hs i k v b σ H pp hk hb hn p
 ·obtain rfl:i=kvs.length:=by omega
  exact .inl ⟨⟨q,zq5 _⟩,hd σ H p⟩
section
variable {X:Cx}
def DB:V->List V->Hp->VK->Prop:=fun x vs H Q=>∃(l b:Addr)(kvs:List (List Key×V)) (k:List Key) (v:V),x=.ref l/\vs=[.ref b,v]/\H l=some (.dT kvs)/\H b=some (.tup (k.map kV))/\kvs.length<sizeLine/\
 (∀y,bh kvs k=some y->Q y H)/\(bh kvs k=none->Q v (upd H l (.dT (kvs++[(k,v)]))))
theorem kQ(hu:X.A.units+1<cLine):MtM X "dict.setdefault" DB:=by
 intro pins s σ H x vs u us Q I rx rv h;obtain ⟨l,b,kvs,k,v,rfl,rfl,hl,hb,hz,q1,q2⟩:=h
 cases rx
 obtain ⟨u1,u2,rfl,r1,r2⟩:=vv rv
 cases r1
 obtain ⟨z,hd,xs,rel,dd⟩:=ye I.hok hl;have hlen:=Paired.length rel;refine call_meetsIn PySem.F.slot_dict_setdefault dd.typeIs PySem.F.entry_dict_setdefault (PySem.F.args_dict_setdefault_3 _ _ _) (gx (tupleKind (bi X.prog X.w)) l b hd u2) ⟨tupleKind_room_in1 hu,zAR k xs (iI I.hok hb) dd Jlk (fun p hp=>?_) fun hn h' dd' hs=>?_⟩
 ·have rk:=rel.val k;rw [hp] at rk
  cases hv:bh kvs k with
  |none=>rw [hv] at rk;exact rk.elim
  |some y=>rw [hv] at rk;exact zAA y H (I.tok _) rk (q1 y hv)
 ·have rk:=rel.val k;rw [hn] at rk;have hv:bh kvs k=none:=by
   cases hv:bh kvs k with
   |none=>rfl
   |some y=>rw [hv] at rk;exact rk.elim
  obtain ⟨q,es,ep,hq,h2,h3,h4,_,h5⟩:=dd';refine zAA v _ (fN (ob:=.dT (kvs++[(k,v)])) I (by rw [hl];exact True.intro) hs ⟨q,hq⟩ (zAB (by rw [zq7,bV];omega) hd (zn _ (KT.keeps (Paired.snoc rel (zAB rfl hb r2)) fun c ys ec=>?_) (zAL q es ep hq h2 h3 h4 h5)))) r2 (q2 hv);rw [ao (bL ec hl (fun z=>nomatch z))];exact ec
theorem Hj{l b:Addr}{v:V}:DB (.ref l) [.ref b,v] H Q=∃(kvs:List (List Key×V)) (k:List Key),H l=some (.dT kvs)/\H b=some (.tup (k.map kV))/\kvs.length<sizeLine/\
  (∀y,bh kvs k=some y->Q y H)/\(bh kvs k=none->Q v (upd H l (.dT (kvs++[(k,v)])))):=propext ⟨by rintro ⟨_,_,kvs,k,_,e1,e2,q⟩;cases e1;cases e2;exact zAH kvs k q,by rintro ⟨kvs,k,q⟩;exact zAV l b kvs k v (zAB rfl rfl q)⟩
def vp(tk tv:TE):TE:=fun σ H Q=>∀p,H p=none->tk σ (upd H p (.dT [])) fun x H1=>tv σ H1 fun y H2=>H2 p=some (.dT [])/\∃(b:Addr)(k:List Key),x=.ref b/\H2 b=some (.tup (k.map kV))/\Q (.ref p) (upd H2 p (.dT [(k,y)]))
theorem sZ{pos:Pos}{ke ve:Expr}{tk tv:TE}(hu:X.A.units+1<cLine)(hk:XE X ke tk)(hv:XE X ve tv):XE X (.Dict [some ke] [ve] pos) (vp tk tv):=⟨by
 intro pins s σ H Q I q;have hn:=I.hok.fresh (zq5 s.heap.objs.size);have I1:=I.laid (a:=s.heap.objs.size) (o:=.dT []) (h':=s.heap.push {cls:=.type "dict",data:=.dict #[]}) (t':=s.toks) (fun _ _ q=>cc _ q) (zq5 _) (oO s.heap I.big);refine wpAny_Dict_any rfl rfl Jll Jll ?_;refine pairTrees_cons_walk (thn (hk.h pins _ σ _ _ I1 (q _ hn)) fun u s1 ⟨x,H1,J1,rx,q1⟩=>thn (hv.h pins s1 σ H1 _ J1 q1) fun w2 s2 ⟨y,H2,J2,ry,q2⟩=>pairTrees_nil_walk ?_);obtain ⟨e,b,k,ex,hb,q3⟩:=q2;subst ex
 cases rx
 unfold storeAll;rw [B0];obtain ⟨z,hd,xs,rel,dd⟩:=ye J2.hok e
 cases rel
 refine zq2 (zq2 (wpAny_dictSet_heap (hsz:=cq _) (show X.A.units<cLine by omega) (iI J2.hok hb) dd fun h' dd' hs=>zq4 ?_));dsimp only;rw [List.forIn_nil];refine zq4 (zAA (.ref s.heap.objs.size) _ ?_ rfl q3);obtain ⟨q,es,ep,hq,h2,h3,h4,_,h5⟩:=dd';refine fN J2 (by rw [e];exact True.intro) hs ⟨q,hq⟩ (zAB (by show 1<=sizeLine;decide) hd (zn _ (.cons (zAB rfl ?_ ry) .nil) (zAL q es ep hq h2 h3 h4 h5)));show upd H2 s.heap.objs.size _ b=_;rw [ao (bL hb e (fun z=>nomatch z))];exact hb⟩
theorem zK{tk tv:TE}:vp tk tv σ H Q=∀p,H p=none->tk σ (upd H p (.dT [])) fun x H1=>tv σ H1 fun y H2=>H2 p=some (.dT [])/\∃(b:Addr)(k:List Key),x=.ref b/\H2 b=some (.tup (k.map kV))/\Q (.ref p) (upd H2 p (.dT [(k,y)])):=rfl
theorem xp{pos:Pos}:XE X (.Dict [] [] pos) Az:=⟨fun pins s σ H Q I h=>wpAny_Dict_empty (zAA (.ref s.heap.objs.size) _ (I.laid (a:=s.heap.objs.size) (o:=.dT []) (t':=s.toks) (fun _ _ q=>cc _ q) (zq5 _) (oO s.heap I.big)) rfl (h _ (I.hok.fresh (zq5 _))))⟩
theorem CU:Az σ H Q=∀p,H p=none->Q (.ref p) (upd H p (.dT [])):=rfl
end
end L2
namespace L2
section
variable {prog:Program} {w:World} {A:Around} {E:Value->Shared->Prop} {s:Shared}
theorem oE{Q:List Value->Shared->Prop}{r:Addr}{a b c:Int}{t u v:Tok}{n:Nat}(hh:A.handled=none)(hr:IsRange s.heap r a b c t u v)(hsmall:Builtin.Range.small a b c=true)(hn:Builtin.Range.rangeSize a b c=n)(hlen:n<=2 ^ 24)
  (hQ:∀h' tk acc,(∀b o,s.heap.get? b=some o->h'.get? b=some o)->ItemsOf (fun i v=>∃t,v=.int (a+i * c) t) acc n->Q acc.toList {s with heap:=h',toks:=tk}):wpAny (model prog w) A (collect (.ref r)) Q E s:=by
 unfold collect;refine zq2 (wpAny_runValue (B3 F.entry_proto_collect ?_));rw [Around.under_plainId F.plain_proto_collect _];show wpAny _ A.in1 (newList [] >>= fun l=>again (.builtin "list.__iadd__" ⟨[l,.ref r],[]⟩)) _ _ s;refine zq2 (wpAny_newObj_type ?_);refine zq4 ⟨plainId_quiet F.plain_list_iadd _,B3 F.entry_list_iadd ?_⟩;rw [Around.under_plainId F.plain_list_iadd _];show wpAny _ A.in1 (Builtin.List.listExtendWith (.ref s.heap.objs.size) (.ref r) (.ref s.heap.objs.size)) _ _ _;have hS:(s.heap.push {cls:=.type "list",data:=.seq ([]:List Value).toArray}).get? s.heap.objs.size=some {cls:=.type "list",data:=.seq #[] 0}:=du _ rfl;refine iw (wpAny_extend_range (A:=A) (s:={s with heap:=s.heap.push {cls:=.type "list",data:=.seq ([]:List Value).toArray}}) (R:=fun r' s'=>∃h' tk acc c',r'=.ok (.ret (.ref s.heap.objs.size))/\s'={s with heap:=h',toks:=tk}/\(∀b o,s.heap.get? b=some o->h'.get? b=some o)/\
   h'.get? s.heap.objs.size=some {cls:=.type "list",dict:=none,data:=.seq acc c',slots:=#[]}/\ItemsOf (fun i v=>∃t,v=.int (a+i * c) t) acc n) hh (cc _ hr) hsmall hn hlen _ _ _ hS
  fun h' tk acc c' hk hS' hacc=>zAM h' tk acc c' rfl rfl (fun b o e=>hk b o (cF (bT e)) (cc _ e)) hS' hacc) (fun fin s' h=>?_) (fun e s' h=>?_)
 ·have fin':∀s' r',(∃h' tk acc c',r'=(Except.ok (.ret (.ref s.heap.objs.size)):Result)/\s'={s with heap:=h',toks:=tk}/\(∀b o,s.heap.get? b=some o->h'.get? b=some o)/\
   h'.get? s.heap.objs.size=some {cls:=.type "list",dict:=none,data:=.seq acc c',slots:=#[]}/\ItemsOf (fun i v=>∃t,v=.int (a+i * c) t) acc n)->wpAny (model prog w) A (match Value.ref s.heap.objs.size with
   |Value.ref a=>do
    match (<- load a).data with
     |Data.seq xs _=>pure xs.toList
     |_=>unsupported "internal:collect"
   |_=>unsupported "internal:collect") Q E s':=by
   rintro s' r' ⟨h',tk,acc,c',_,rfl,hk,hS',hacc⟩;show wpAny _ A (load s.heap.objs.size >>= _) _ _ _;refine zq2 (wpAny_load hS' ?_);exact zq4 (hQ h' tk acc hk hacc)
  cases fin with
  |done f=>
   obtain ⟨h',tk,acc,c',e,r⟩:=id h
   cases e
   exact fin' _ _ h
  |again c'=>exact ⟨h.1,codeAny_mono h.2 fun r s'' hr=>by obtain ⟨h',tk,acc,c',e,r⟩:=id hr;subst e;exact fin' _ _ hr⟩
 ·obtain ⟨_,_,_,_,e,_⟩:=h
  cases e
theorem jj(r:Addr)(n:Nat)(hlen:n<=1000):
  Meets (Builtin.«tuple.__new__» ⟨[.type "tuple",.ref r],[]⟩)
   (fun A R s=>A.handled=none/\(∃t u v,IsRange s.heap r 0 n 1 t u v)/\∀(h':Heap)(tk:Nat)(acc:Array Value),(∀b o,s.heap.get? b=some o->h'.get? b=some o)->ItemsOf (fun i v=>∃t,v=.int (0+i * 1) t) acc n->
    R (.ok (.ret (.ref h'.objs.size))) {s with heap:=h'.push {cls:=.type "tuple",data:=.seq acc},toks:=tk}):=
 .of_wp fun prog w A R s h=>by
  obtain ⟨hh,⟨t,u,v,hr⟩,h⟩:=h;have hsub:=sub_tuple_self;have hinit:=init_tuple_lookup;have hmh:=madeHere_tuple;have hT:s.TypeIs (.ref r) "range":=zn _ hr rfl
  have hh1:A.in1.handled=none:=hh;have hsm:Builtin.Range.small 0 n 1=true:=small_one Jlk Jlk Jlk Jlk;have hsz:Builtin.Range.rangeSize 0 n 1=n:=by rw [rangeSize_one];split<;>omega +splitNatSub
  wp_walk using AutoSeq1.wpAny_loadPart' hr,wpAny_typeOf hT,oE hh1 hr hsm hsz (dI hlen Jkm)
  intro h' tk acc hk hacc;show wpAny _ _ (Builtin.Tuple.tupleExact acc.toList.toArray >>= fun v=>ret v) _ _ _;unfold Builtin.Tuple.tupleExact;refine zq2 (wpAny_newObj_type ?_ (show acc.toList.toArray.size<=sizeLine by simp only [Array.toArray_toList];rw [hacc.1,zq8];omega));refine zq4 (zn _ rfl ?_);have e:acc.toList.toArray=acc:=by simp
  rw [e];exact h h' tk acc hk hacc
theorem jF{r:Addr}{n:Nat}{t u v:Tok}{Q:Value->Shared->Prop}(hh:A.handled=none)(hlen:n<=1000)(hr:IsRange s.heap r 0 n 1 t u v)
  (h:∀(h':Heap)(tk:Nat)(acc:Array Value),(∀b o,s.heap.get? b=some o->h'.get? b=some o)->ItemsOf (fun i v=>∃t,v=.int (0+i * 1) t) acc n->Q (.ref h'.objs.size) {s with heap:=h'.push {cls:=.type "tuple",data:=.seq acc},toks:=tk}) :
  wpAny (model prog w) A (call (.type "tuple") [.ref r]) Q E s:=
 callType_new F.called_tuple Jkm (F.typeCall_tuple_1 _) (F.newCall_tuple_1 _) (fun obj=>F.args_object_init_2 obj _) F.entry_tuple_new
  (jj r n hlen) (zAB hh (zAJ t u v hr) fun h' tk acc hk hacc=>⟨zn _ (du _ rfl) rfl,h h' tk acc hk hacc⟩)
end
section
variable {X:Cx}
def nD(ta:TA):TE:=fun σ H Q=>ta σ H fun vs H1=>∃n:Nat,vs=[.int n]/\n<=1000/\∀l,H1 l=none->Q (.ref l) (upd H1 l (.tup ((List.range n).map fun i:Nat=>V.int i)))
theorem wU{a:Expr}{ta:TA}{p p2 pos pos2:Pos}(hc:X.calm=true)(hm:X.mg "tuple"=none) (hm2:X.mg "range"=none) (ha:PA X [a] ta) (hg:Gl X "tuple") (hg2:Gl X "range") (hs:starEach [a] X.env=[(false,eval a X.env)]:=by rfl)
  (hs2:starEach [.Call (.Name "range" p2) [a] [] pos2] X.env=[(false,eval (.Call (.Name "range" p2) [a] [] pos2) X.env)]:=by rfl) :
  PE X (.Call (.Name "tuple" p) [.Call (.Name "range" p2) [a] [] pos2] [] pos) (nD ta):=by
 intro pins s σ H Q I h;refine Call_ (eX I hg hm boot_tuple (PyProof.Rows.callWith_type1 ?_ hs2 rfl));rw [hs2];show wpAny _ _ (spliced ((false,eval (.Call (.Name "range" p2) [a] [] pos2) X.env)::[])) _ _ s;refine Calls.spliced_cons (Call_ (eX I hg2 hm2 boot_range (PyProof.Rows.callWith_type1 (thn (ha pos2 pins s σ H _ I h) fun us s1 hhx=>?_) hs rfl)));obtain ⟨vs,H1,I1,r1,q1⟩:=hhx;obtain ⟨n,e,hn,q⟩:=q1;subst e
 cases r1 with
 |cons r rr=>
  cases rr
  obtain ⟨t,rfl⟩:=r;refine call_range_1 (Calls.spliced_nil ?_);refine jF (n:=n) (I.ok.hd hc) hn (IsRange.new ..) fun h' tk acc hk hacc=>?_;have kp:∀b u,s1.heap.get? b=some u->h'.get? b=some u:=fun b u e=>hk b u (cc _ e);have I2:Inv X pins σ H1 {s1 with heap:=h',toks:=tk}:=I1.kept kp;refine zAA (.ref h'.objs.size) _ (I2.laid (t':=tk) (fun b u e=>cc _ e) (zq5 _) (show ObjOk X.prog X.w _ _ _ (.tup ((List.range n).map fun i:Nat=>V.int i)) from ⟨by rw [zq3,eg,zq8];omega,zn acc.toList (wu hacc) ?_⟩)) rfl (q _ (I2.hok.fresh (zq5 _)));have e:=IsTup.new h' acc;simpa using e
theorem tj{a:Expr}{ta:TA}{p p2 pos pos2:Pos}(hc:X.calm=true)(hm:X.mg "tuple"=none) (hm2:X.mg "range"=none) (ha:XA X [a] ta) (hg:Gl X "tuple") (hg2:Gl X "range") (hs:starEach [a] X.env=[(false,eval a X.env)]:=by rfl)
  (hs2:starEach [.Call (.Name "range" p2) [a] [] pos2] X.env=[(false,eval (.Call (.Name "range" p2) [a] [] pos2) X.env)]:=by rfl) :
  XE X (.Call (.Name "tuple" p) [.Call (.Name "range" p2) [a] [] pos2] [] pos) (nD ta):=⟨wU hc hm hm2 ha.h hg hg2 hs hs2⟩
theorem zX{ta:TA}{σ:St}{H:Hp}{Q:VK}:nD ta σ H Q=ta σ H fun vs H1=>∃n:Nat,vs=[.int n]/\n<=1000/\∀l,H1 l=none->Q (.ref l) (upd H1 l (.tup ((List.range n).map fun i:Nat=>V.int i))):=rfl
end
section
variable {prog:Program} {w:World} {A:Around} {E:Value->Shared->Prop} {s:Shared} {l I S:Addr} {vs:List Value} {ln:Nat->Nat} {dv:Value} {R:Result->Shared->Prop}
end
section
variable {X:Cx}
end
end L2
end
namespace GD
section
variable {G:Nat->Nat->Option Int} {so:Nat->Nat} {U:Nat->Int} {n:Nat}
end
end GD
section
open PySem PySem.Spec PyProof.Rows
namespace L2
section
variable {X:Cx}
end
end L2
namespace L2
def Dp(d:Addr)(o:Obj)(kvs:List (Key×V)):It:=
 ⟨fun i H=>H d=some (.frz o (.dK kvs))/\i<kvs.length,fun i H x H'=>H'=H/\∃k v,kvs[i]?=some (k,v)/\x=kV k,fun i H=>H d=some (.frz o (.dK kvs))/\kvs.length<=i⟩
def Iv(td:TE):TI:=fun σ H R=>td σ H fun x H1=>∃a kvs,x=.ref a/\H1 a=some (.dK kvs)/\∀o,R (Dp a o kvs) (upd H1 a (.frz o (.dK kvs)))
theorem CZ{td:TE}{σ:St}{H:Hp}{R:It->Hp->Prop}:Iv td σ H R=td σ H fun x H1=>∃a kvs,x=.ref a/\H1 a=some (.dK kvs)/\∀o,R (Dp a o kvs) (upd H1 a (.frz o (.dK kvs))):=rfl
end L2
namespace L2
def Itz(K:W.Frag)(a b:Addr):It:=
  ⟨fun i H=>∃xs ys x y,SqL K H a xs/\SqL K H b ys/\xs[i]?=some x/\ys[i]?=some y,
   fun i H z H'=>∃p x y,z=.ref p/\H p=none/\H'=upd H p (.tup [x,y])/\(∀xs,SqL K H a xs->xs[i]?=some x)/\∀ys,SqL K H b ys->ys[i]?=some y,
   fun i H=>∃xs ys,SqL K H a xs/\SqL K H b ys/\(xs.length<=i\/ys.length<=i)⟩
def Ig(z ti to i1 i2 a b:Addr)(i:Nat)(h:Heap):Prop:=IsZip h z ti to .none/\IsPair h ti (.ref i1) (.ref i2)/\(∃u v,IsPair h to u v)/\h.IsListIter i1 a i/\h.IsListIter i2 b i
theorem AI{P:Program}{w:World}{K:W.Frag}{elts:List Expr}{k0:Nat}{pos0:Pos}{z ti to i1 i2 a b:Addr}(D:ZipApart z ti to i1 i2 a b):
  kM P w K (.Tuple elts k0 pos0) (Itz K a b) [z,ti,to,i1,i2] z (Ig z ti to i1 i2 a b) where
 mem:=by simp
 obj:=fun i h ⟨h1,h2,⟨u,v,h3⟩,h4,h5⟩ c hc=>by
  simp only [List.mem_cons,List.not_mem_nil,or_false] at hc;rcases hc with rfl | rfl | rfl | rfl | rfl
  ·exact zn _ h1 (fun v e=>by cases (show Data.fields _=Data.cell v from e))
  ·exact zn _ h2 (fun v e=>by cases (show Data.seq _ _=Data.cell v from e))
  ·exact zn _ h3 (fun v e=>by cases (show Data.seq _ _=Data.cell v from e))
  ·obtain ⟨o,q,_,d⟩:=h4;exact zn o q (fun v e=>by rw [d] at e;cases e)
  ·obtain ⟨o,q,_,d⟩:=h5;exact zn o q (fun v e=>by rw [d] at e;cases e)
 keep:=fun i h h' ⟨h1,h2,⟨u,v,h3⟩,h4,h5⟩ k=>zAI (k z Jll _ h1) (k ti Jll _ h2) (zAH u v (k to Jll _ h3)) (h4.at fun o q=>k i1 Jll o q) (h5.at fun o q=>k i2 Jll o q)
 item:=by
  intro X hP hw hK hc i pins s σ H E I hf st hg;subst hP hw hK;obtain ⟨xs,ys,x,y,hqx,hqy,hx,hy⟩:=hg;obtain ⟨its,rv,p,hzz⟩:=I.list hqx;obtain ⟨ots,rw',p',hzz'⟩:=I.list hqy;obtain ⟨u,hu,ru⟩:=rv.get hx;obtain ⟨v,hv,rv'⟩:=rw'.get hy;obtain ⟨hz,hti,⟨oa,ob,hto⟩,hi1,hi2⟩:=st;have hf0:∀c∈[z,ti,to,i1,i2],H c=none:=fun c hc=>(hf c hc).1;refine wpAny_pyNext_zip_item D hz hti hto hi1 hi2 p.isList p'.isList (x:=u) (y:=v) (by simpa using hu) (by simpa using hv) fun h1 z1 t1 a1 a2 t2 hsz hk=>?_;refine zn _ rfl (wpAny_letOwnedTupleGo_zip z1 fun h2 z2 hs2=>?_);replace hs2:Heap.SameBut z h1 h2:=hs2;have zlt:z<s.heap.objs.size:=bT hz;have hk2:∀c o,c≠z->c≠to->c≠i1->c≠i2->s.heap.get? c=some o->h2.get? c=some o:=fun c o c1 c2 c3 c4 q=>(hs2.2 c c1).trans (hk c o c1 c2 c3 c4 q);have hT2:IsPair h2 s.heap.objs.size u v:=(hs2.2 _ (xt zlt)).trans t2;have hn:H s.heap.objs.size=none:=I.hok.fresh (zq5 _);have nF:∀c o,H c=some o->c≠z/\c≠to/\c≠i1/\c≠i2:=fun c o q=>zAF (fun e=>(by rw [e,hf0 z Jll] at q;cases q)) (fun e=>(by rw [e,hf0 to Jll] at q;cases q)) (fun e=>(by rw [e,hf0 i1 Jll] at q;cases q)) (fun e=>(by rw [e,hf0 i2 Jll] at q;cases q))
  have kp:∀c o o',H c=some o->s.heap.get? c=some o'->h2.get? c=some o':=fun c o o' q r=>let ⟨n1,n2,n3,n4⟩:=nF c o q;hk2 c o' n1 n2 n3 n4 r;have ok2:HOk X.prog X.w H h2:=fun c o q=>(I.hok c o q).stay (fun d v' hd r=>by
   rcases hd with e | e
   ·rw [e] at r ⊢;exact kp c o v' q r
   ·exact kp d _ v' e r) (fun _ r=>r) fun _ _ r=>r
  have ok3:HOk X.prog X.w (upd H s.heap.objs.size (.tup [x,y])) h2:=fun c o q=>by
   by_cases hb:c=s.heap.objs.size
   ·subst hb;rw [ac] at q
    cases q
    exact ⟨by show 2<=sizeLine;decide,zn ([u,v]) (.cons ru (.cons rv' .nil)) (zAC _ hT2 rfl ⟨_,rfl⟩)⟩
   ·rw [ao hb] at q;exact (ok2 c o q).stay (fun d v' _ r=>r) (fun d r=>by rw [ao (am r hn)];exact r) fun d zs r=>by rw [ao (am r hn)];exact r
  have nlt:∀{c:Addr} {o:Obj},s.heap.get? c=some o->c≠s.heap.objs.size:=fun q=>cF (bT q);have lg:∀c,c∉[z,ti,to,i1,i2]->c≠z/\c≠to/\c≠i1/\c≠i2:=fun c hc=>by simp only [List.mem_cons,List.not_mem_nil,or_false,not_or] at hc;exact zAF hc.1 hc.2.2.1 hc.2.2.2.1 hc.2.2.2.2
  have I2:Inv X pins σ (upd H s.heap.objs.size (.tup [x,y])) {s with heap:=h2,toks:=s.toks}:=
   I.step (g':=s.gens) (d':=s.drawn) (ch:=[z,ti,to,i1,i2]) (fun c hc=>let ⟨_,f1,_,f3,f4,f5⟩:=hf c hc;(zAF f3 f1 f4 f5))
    (fun c o _ _ hc q _=>let ⟨n1,n2,n3,n4⟩:=lg c hc;hk2 c o n1 n2 n3 n4 q)
    (fun c o _ _ hc q _=>let ⟨n1,n2,n3,n4⟩:=lg c hc;⟨o.slots,hk2 c o n1 n2 n3 n4 q⟩)
    (fun c o _ q n=>by rw [ao (nlt q)];exact n)
    (fun c o hc q=>let ⟨n1,n2,n3,n4⟩:=lg c hc;⟨o,hk2 c o n1 n2 n3 n4 q⟩)
    (fun c zs q=>by rw [ao (am q hn)];exact q) (fun c o v q=>by rw [ao (am q hn)];exact q) (fun c ps q=>⟨#[],by rw [ao (am q hn),q];simp⟩)
    (fun m ⟨o,es,ep,hm,r⟩=>zAK o es ep (hk2 _ o (hf z Jll).2.1.symm (hf to Jll).2.1.symm (hf i1 Jll).2.1.symm (hf i2 Jll).2.1.symm hm) r) ok3 I.bare
  refine ⟨.ref s.heap.objs.size,_,I2,rfl,zAL _ x y rfl hn rfl (fun zs hz'=>by rw [I.list_inj hz' hqx];exact hx) (fun zs hz'=>by rw [I.list_inj hz' hqy];exact hy),
   (zAI z2 ((hs2.2 ti D.TIz).trans (hk ti _ D.TIz D.TITO D.TIi1 D.TIi2 hti)) (zAH u v ((hs2.2 to D.TOz).trans t1)) (a1.at fun o q=>(hs2.2 i1 D.i1z).trans q) (a2.at fun o q=>(hs2.2 i2 D.i2z).trans q)),fun c hc=>?_⟩
  have hcl:c≠s.heap.objs.size:=by
   simp only [List.mem_cons,List.not_mem_nil,or_false] at hc;rcases hc with e | e | e | e | e
   ·rw [e];exact nlt hz
   ·rw [e];exact nlt hti
   ·rw [e];exact nlt hto
   ·rw [e];obtain ⟨o,q,_⟩:=hi1;exact nlt q
   ·rw [e];obtain ⟨o,q,_⟩:=hi2;exact nlt q
  rw [ao hcl];exact hf0 c hc
 done:=by
  intro X hP hw hK hc i pins s σ H E I hf st hg;subst hP hw hK;obtain ⟨xs,ys,hqx,hqy,hend⟩:=hg;obtain ⟨its,rv,p,_⟩:=I.list hqx;obtain ⟨ots,rw',p',_⟩:=I.list hqy;have hl1:=rv.length;have hl2:=rw'.length;obtain ⟨hz,hti,⟨oa,ob,hto⟩,hi1,hi2⟩:=st;have hf0:∀c∈[z,ti,to,i1,i2],H c=none:=fun c hc=>(hf c hc).1;refine wpAny_pyNext_zip_end (I.ok.hd hc) D hz hti hto hi1 hi2 p.isList p'.isList (hend.imp (fun h=>by simp;omega) fun h=>by simp;omega) fun h' hk=>⟨rfl,?_⟩
  have lg:∀c,c∉[z,ti,to,i1,i2]->c≠z/\c≠to/\c≠i1/\c≠i2:=fun c hc=>by simp only [List.mem_cons,List.not_mem_nil,or_false,not_or] at hc;exact zAF hc.1 hc.2.2.1 hc.2.2.2.1 hc.2.2.2.2
  have kp:∀c o o',H c=some o->s.heap.get? c=some o'->h'.get? c=some o':=fun c o o' q r=>hk c o' (fun e=>by rw [e,hf0 z Jll] at q;cases q) (fun e=>by rw [e,hf0 to Jll] at q;cases q) (fun e=>by rw [e,hf0 i1 Jll] at q;cases q) (fun e=>by rw [e,hf0 i2 Jll] at q;cases q) r;exact I.step (t':=s.toks) (g':=s.gens) (d':=s.drawn) (ch:=[z,ti,to,i1,i2]) (fun c hc=>let ⟨_,f1,_,f3,f4,f5⟩:=hf c hc;(zAF f3 f1 f4 f5))
    (fun c o _ _ hc q _=>let ⟨n1,n2,n3,n4⟩:=lg c hc;hk c o n1 n2 n3 n4 q)
    (fun c o _ _ hc q _=>let ⟨n1,n2,n3,n4⟩:=lg c hc;⟨o.slots,hk c o n1 n2 n3 n4 q⟩)
    (fun _ _ _ _ n=>n) (fun c o hc q=>let ⟨n1,n2,n3,n4⟩:=lg c hc;⟨o,hk c o n1 n2 n3 n4 q⟩) (fun _ _ q=>q) (fun _ _ _ q=>q) (fun c ps q=>⟨#[],by rw [q];simp⟩)
    (fun m ⟨o,es,ep,hm,r⟩=>zAK o es ep (hk _ o (hf z Jll).2.1.symm (hf to Jll).2.1.symm (hf i1 Jll).2.1.symm (hf i2 Jll).2.1.symm hm) r)
    (fun c o q=>(I.hok c o q).stay (fun d v' hd r=>by
     rcases hd with e | e
     ·rw [e] at r ⊢;exact kp c o v' q r
     ·exact kp d _ v' e r) (fun _ r=>r) fun _ _ r=>r) I.bare
 self:=fun _ _ _ _ _ ⟨hz,_⟩ h=>wpAny_pyIter_zip hz h
def Fj(K:W.Frag)(ta:TA):TI:=fun σ H R=>ta σ H fun vs H1=>∃a b,vs=[.ref a,.ref b]/\(∃xs,SqL K H1 a xs)/\(∃ys,SqL K H1 b ys)/\R (Itz K a b) H1
theorem Ga{X:Cx}{a b:Expr}{ta:TA}{p pos pos0:Pos}{elts:List Expr}{k0:Nat}(hm:X.mg "zip"=none) (ha:PA X [a,b] ta) (hg:Gl X "zip":=by rfl) (hs:starEach [a,b] X.env=(false,eval a X.env)::starEach [b] X.env:=by rfl) (hs2:(backTo pos (starEach [b] X.env)).any (·.1)=false:=by rfl) :
  PI X (.Tuple elts k0 pos0) (.Call (.Name "zip" p) [a,b] [] pos) (Fj X.K ta):=by
 intro pins s σ H R I h;refine Call_ (eX I hg hm boot_zip (PyProof.Rows.callWith_type1 (thn (ha pos pins s σ H _ I h) fun us s1 hhx=>?_) hs hs2));obtain ⟨vs,H1,I1,r1,q1⟩:=hhx;obtain ⟨l,m,e,⟨xs,hx⟩,⟨ys,hy⟩,q⟩:=q1;subst e;obtain ⟨u,us',rfl,ru,r2⟩:∃u us',us=u::us'/\RelV (.ref l) u/\Vals [.ref m] us':=by cases r1 with | cons r rr=>exact zAA _ _ rfl r rr
 obtain ⟨v,rfl,rv⟩:=fH r2
 cases ru
 cases rv
 obtain ⟨its,_,p1,_⟩:=I1.list hx;obtain ⟨ots,_,p2,_⟩:=I1.list hy;have l1:l<s1.heap.objs.size:=by obtain ⟨o,ho,_⟩:=p1.isList;exact bT ho
 have l2:m<s1.heap.objs.size:=by obtain ⟨o,ho,_⟩:=p2.isList;exact bT ho
 refine call_zip_2 p1.isList p2.isList fun h' z1 z2 z3 z4 z5 _ hk=>?_;refine wpAny_pyIter_zip z1 ?_;have I2:Inv X pins σ H1 {s1 with heap:=h'}:=I1.kept (t':=s1.toks) hk;refine zAZ _ _ _ _ H1 rfl I2 (AI (zipApart_new l1 l2)) (zAI z1 z2 (zAH _ _ z3) z4 z5) (fun c hc=>?_) q;have hle:s1.heap.objs.size<=c:=by
  simp only [List.mem_cons,List.not_mem_nil,or_false] at hc;rcases hc with rfl | rfl | rfl | rfl | rfl
  ·exact nR _ _
  ·exact nR _ _
  ·exact nR _ _
  ·exact zq5 _
  ·exact nR _ _
 exact I1.fpOk hle (I1.hok.fresh hle)
theorem vy{X:Cx}{a b:Expr}{ta:TA}{p pos pos0:Pos}{elts:List Expr}{k0:Nat}(hm:X.mg "zip"=none) (ha:XA X [a,b] ta) (hg:Gl X "zip":=by rfl) (hs:starEach [a,b] X.env=(false,eval a X.env)::starEach [b] X.env:=by rfl) (hs2:(backTo pos (starEach [b] X.env)).any (·.1)=false:=by rfl) :
  XI X (.Tuple elts k0 pos0) (.Call (.Name "zip" p) [a,b] [] pos) (Fj X.K ta):=⟨Ga hm ha.h hg hs hs2⟩
theorem GL{K:W.Frag}{ta:TA}{σ:St}{H:Hp}{R:It->Hp->Prop}:Fj K ta σ H R=ta σ H fun vs H1=>∃a b,vs=[.ref a,.ref b]/\(∃xs,SqL K H1 a xs)/\(∃ys,SqL K H1 b ys)/\R (Itz K a b) H1:=rfl
theorem yo{K:W.Frag}{a b:Addr}{xs ys:List V}{g:TG}{tb:TS}{D:de}{σ:St}{H:Hp}(hlen:xs.length=ys.length)(Pv:Nat->St->Hp->Prop)(h0:Pv 0 σ H)(hl:∀i σ H,i<=xs.length->Pv i σ H->SqL K H a xs/\SqL K H b ys)
  (hs:∀(i:Nat)x y σ H p,xs[i]?=some x->ys[i]?=some y->H p=none->Pv i σ H->g (.ref p) σ (upd H p (.tup [x,y])) fun σ2 H2=>tb {D with nx:=Pv (i+1),ct:=Pv (i+1),bk:=D.nx} σ2 H2) (hd:∀σ H,Pv xs.length σ H->D.nx σ H):nU (Itz K a b) g tb D σ H:=by
 refine zn (fun i m σ H=>m=xs.length-i/\i<=xs.length/\Pv i σ H) (zAC xs.length Jll (cq _) h0) ?_;rintro i m σ H ⟨rfl,hi,p⟩;obtain ⟨q1,q2⟩:=hl i σ H hi p
 by_cases hlt:i<xs.length
 ·refine .inr ⟨zAU xs ys _ _ q1 q2 (zq6 hlt) (zq6 Jlk),zn (Pv (i+1)) (fun σ' H' p'=>zAG (xs.length-(i+1)) Jlk rfl hlt p') fun x H' y=>?_⟩;obtain ⟨pp,u,v,ex,hn,eH,y1,y2⟩:=y;subst ex eH;exact hs i u v σ H pp (y1 xs q1) (y2 ys q2) hn p
 ·obtain rfl:i=xs.length:=by omega
  exact .inl ⟨zAA xs ys q1 q2 (.inl (zq5 _)),hd σ H p⟩
end L2
namespace L2
def lX(l:List Str)(x:Str):List Str:=if x∈l then l else l++[x]
def dF(ns:List Str):List Str:=ns.foldl lX []
theorem rZ(ns:List Str)(x:Str):dF (ns++[x])=lX (dF ns) x:=by unfold dF;rw [nQ];rfl
theorem wM{l:List Str}{x y:Str}:y∈lX l x↔y∈l\/y=x:=by
 unfold lX
 split
 ·next h=>exact ⟨.inl,fun z=>z.elim id fun e=>by rw [e];exact h⟩
 ·rw [zq18,zq10]
theorem wN(ns:List Str):(∀y,y∈dF ns↔y∈ns)/\(dF ns).length<=ns.length/\((dF ns).length=ns.length↔ns.Nodup):=by
 rw [<- List.reverse_reverse ns];generalize ns.reverse=ms
 induction ms with
 |nil=>exact zAB (fun y=>Iff.rfl) (zq5 _) ⟨fun _=>BB,fun _=>rfl⟩
 |cons x m ih=>
  rw [List.reverse_cons];generalize m.reverse=l at ih ⊢;obtain ⟨h1,h2,h3⟩:=ih;rw [rZ,zq7,bV];refine zAB (fun y=>by rw [wM,h1,zq18,zq10]) ?_ ?_
  ·unfold lX;split
   ·omega
   ·rw [zq7,bV];omega
  ·rw [zq75];unfold lX
   split
   ·next h=>refine ⟨fun e=>absurd e Jlk,fun ⟨_,_,z⟩=>absurd rfl (z x ((h1 x).mp h) x (zq10.mpr rfl))⟩
   ·next h=>rw [zq7,bV];refine ⟨fun e=>zAB (h3.mp Jlk) Jll fun a ha b hb e2=>h ?_,fun ⟨z,_,_⟩=>by rw [h3.mpr z]⟩;rw [zq10.mp hb] at e2;rw [<- e2];exact (h1 a).mpr ha
section
variable {prog:Program} {w:World} {A:Around} {R:Result->Shared->Prop} {it:Addr} {fp wr:List Addr} {G:Array GenState->Array GenState->Prop} {n:Nat} {P:Nat->Value->Prop} {St:Nat->Shared->Prop}
end
section
variable {prog:Program} {w:World} {A:Around} {E:Value->Shared->Prop} {s:Shared}
end
def uY(p:Addr)(n:Nat):HO:=.ext fun h=>n<scanBound/\∃o es ep t,h.get? p=some o/\o.ExactSet/\o.data=.set es ep t/\t.fits es.size=true/\es.size=n
variable {X:Cx}
def IT(K:W.Frag):List V->Hp->VK->Prop:=fun xs H Q=>∃(a:Addr)(ns:List Str),xs=[.ref a]/\SqL K H a (ns.map V.str)/\ns.length<64/\∀p:Addr,H p=none->Q (.ref p) (upd H p (uY p (dF ns).length))
theorem Hk{K:W.Frag}{a:Addr}{H:Hp}{Q:VK}:IT K [.ref a] H Q=∃ns:List Str,SqL K H a (ns.map V.str)/\ns.length<64/\∀p:Addr,H p=none->Q (.ref p) (upd H p (uY p (dF ns).length)):=propext ⟨by rintro ⟨_,ns,e,q⟩;cases e;exact ⟨ns,q⟩,by rintro ⟨ns,q⟩;exact zAD a ns rfl q⟩
def IQ:List V->Hp->VK->Prop:=fun xs H Q=>∃(p:Addr)(n:Nat),xs=[.ref p]/\H p=some (uY p n)/\Q (.int n) H
theorem Hd{p:Addr}{H:Hp}{Q:VK}:IQ [.ref p] H Q=∃n:Nat,H p=some (uY p n)/\Q (.int n) H:=propext ⟨by rintro ⟨_,n,e,q⟩;cases e;exact ⟨n,q⟩,by rintro ⟨n,q⟩;exact zAD p n rfl q⟩
end L2
namespace L2
section
variable {X:Cx}
def zF:List V->Hp->VK->Prop:=fun xs H Q=>∃(a:Addr)(kvs:List (Key×V)) (ns:List Str),xs=[.ref a]/\H a=some (.dK kvs)/\kvs.map (·.1)=ns.map Sum.inr/\ns.length<64/\∀l:Addr,H l=none->Q (.ref l) (upd H l (.lst ((FX.srt ns).map V.str)))
theorem x5{a:Addr}{H:Hp}{Q:VK}:zF [.ref a] H Q=∃(kvs:List (Key×V)) (ns:List Str),H a=some (.dK kvs)/\kvs.map (·.1)=ns.map Sum.inr/\ns.length<64/\∀l:Addr,H l=none->Q (.ref l) (upd H l (.lst ((FX.srt ns).map V.str))):=propext ⟨by rintro ⟨_,kvs,ns,e,q⟩;cases e;exact zAH kvs ns q,by rintro ⟨kvs,ns,q⟩;exact zAK a kvs ns rfl q⟩
end
end L2
end
namespace GO
open PySem L2 FB FS FG FO FR FZ GA PyProof.Rows
variable {b b0:Bx}
def atB(w:Int)(d:Deed)(b0 b:Bx):Bx:=match d with
 | .tell _=>b
 | .copy n _=>bo b (.inr n) (.int (j5 b0 w d))
 | .op _ n _ _=>bo b (.inr n) (.int (j5 b0 w d))
def beat(w:Int)(b0:Bx):List Deed->BT->BT
 | [],s=>s
 |d::r,s=>beat w b0 r (atB w d b0 s.1,doT w d b0 s.2)
def fE(F:List Blk)(w:Int):Nat->Nat->BT->BT×Bool
 |0,_,s=>(s,false)
 |m+1,i,s=>match F[i]? with
  |none=>(s,false)
  |some b=>match nxt s.1 b.ed with
   |none=>(beat w s.1 b.ds s,true)
   |some j=>fE F w m j (beat w s.1 b.ds s)
def tR(F:List Blk)(w:Int)(m:Nat)(b:Blk)(s:BT):BT×Bool:=match nxt s.1 b.ed with
 |none=>(beat w s.1 b.ds s,true)
 |some j=>fE F w m j (beat w s.1 b.ds s)
theorem mq{F:List Blk}{w:Int}{m i:Nat}{s:BT}{b:Blk}(h:F[i]?=some b):fE F w (m+1) i s=tR F w m b s:=by rw [fE,h];rfl
theorem BxG.atB{ns:List Str}{w:Int}{d:Deed}(h0:BxG ns w b0)(h:BxG ns w b)(hd:Deed.good ns w d)(hw:1<=w):BxG ns w (atB w d b0 b):=by
 have l:=ya h0 hd hw
 cases d with
 |tell a=>exact h
 |copy n a=>exact h.put hd.1 l.1 l.2
 |op f n x y=>exact h.put hd.2.1 l.1 l.2
theorem iB{w:Int}{b0:Bx}:∀{ds:List Deed} {j:Nat} {d:Deed} {s:BT},ds[j]?=some d->beat w b0 (ds.take (j+1)) s=(GO.atB w d b0 (beat w b0 (ds.take j) s).1,doT w d b0 (beat w b0 (ds.take j) s).2)
 | [],j,d,s,h=>by simp at h
 |x::ds,0,d,s,h=>by
  simp at h;subst h;rfl
 |x::ds,j+1,d,s,h=>by rw [List.take_succ_cons,List.take_succ_cons,beat,beat];exact iB (by simpa using h)
theorem fm{w:Int}{b0:Bx}:∀{ds:List Deed} {s:BT},(beat w b0 ds s).2.length<=s.2.length+ds.length
 | [],s=>zq5 _
 |d::r,s=>by rw [beat];have h:=fm (w:=w) (b0:=b0) (ds:=r) (s:=(GO.atB w d b0 s.1,doT w d b0 s.2));have h2:=BY (w:=w) (d:=d) (b:=b0) (t:=s.2);rw [cW];dsimp only at h;omega
theorem pv{n:Str}{x u:V}(h:bh b (.inr n)=some u):(bo b (.inr n) x).map (·.1)=b.map (·.1):=by
 have hv:=cI (.inr n) b;rw [h] at hv;unfold bo;rw [zq1 (by rw [hv];rfl),fJ];refine tF fun kv _=>?_;show (if _ then _ else kv).1=kv.1
 split<;>rfl
theorem yu{ns:List Str}{w:Int}{d:Deed}(h:BxG ns w b)(hd:Deed.good ns w d):(GO.atB w d b0 b).map (·.1)=b.map (·.1):=by
 cases d with
 |tell a=>rfl
 |copy n a=>exact pv (h.val hd.1)
 |op f n x y=>exact pv (h.val hd.2.1)
theorem BxG.beat{ns:List Str}{w:Int}(h0:BxG ns w b0)(hw:1<=w):∀{ds:List Deed} {s:BT},BxG ns w s.1->(∀d∈ds,Deed.good ns w d)->BxG ns w (GO.beat w b0 ds s).1/\(GO.beat w b0 ds s).1.map (·.1)=s.1.map (·.1)
 | [],s,h,_=>⟨h,rfl⟩
 |d::r,s,h,hd=>by rw [GO.beat];have hg:=hd d (cV ..);obtain ⟨h1,h2⟩:=BxG.beat h0 hw (s:=(GO.atB w d b0 s.1,doT w d b0 s.2)) (BxG.atB h0 h hg hw) fun x hx=>hd x (zq9 _ hx);exact ⟨h1,h2.trans (yu h hg)⟩
end GO
namespace L2
open PySem PySem.Spec PyProof.Rows
section
variable {X:Cx}
end
end L2
namespace GV
open PySem PySem.Spec PySem.W PyProof.Rows
mutual
inductive NkIs (h:Heap):WData->Value->Prop where
 |non:NkIs h .none .none
 |int {i:Int} {t:Tok}:NkIs h (.int i) (.int i t)
 |str {x:Str} {t:Tok}:NkIs h (.str x) (.str x t)
 |tup {a:Addr} {o:Obj} {its:Array Value} {n:Nat} {xs:List WData}:h.get? a=some o->o.cls=.type "tuple"->o.data=.seq its n->NksIs h xs its.toList->NkIs h (.tuple xs) (.ref a)
inductive NksIs (h:Heap):List WData->List Value->Prop where
 |nil:NksIs h [] []
 |cons {k:WData} {v:Value} {ks:List WData} {vs:List Value}:NkIs h k v->NksIs h ks vs->NksIs h (k::ks) (v::vs)
end
mutual
def dpN:WData->Nat
 | .tuple xs=>iD xs+1
 |_=>0
def iD:List WData->Nat
 | []=>0
 |x::r=>max (dpN x) (iD r)
end
mutual
def tkN:WData->Nat
 | .tuple xs=>Dg xs+1
 |_=>1
def Dg:List WData->Nat
 | []=>0
 |x::r=>tkN x+Dg r
end
mutual
theorem NkIs.inj{h:Heap}:∀{x y:WData} {v:Value},NkIs h x v->NkIs h y v->x=y
 |_,_,_,.non,b=>by cases b;rfl
 |_,_,_,.int,b=>by cases b;rfl
 |_,_,_,.str,b=>by cases b;rfl
 |_,_,_,.tup h1 h2 h3 h4,b=>by
  cases b with
  |tup g1 g2 g3 g4=>
   rw [h1] at g1
   cases g1
   rw [h3] at g3
   cases g3
   rw [NksIs.inj h4 g4]
theorem NksIs.inj{h:Heap}:∀{x y:List WData} {v:List Value},NksIs h x v->NksIs h y v->x=y
 |_,_,_,.nil,b=>by cases b;rfl
 |_,_,_,.cons h1 h2,b=>by
  cases b with
  |cons g1 g2=>rw [NkIs.inj h1 g1,NksIs.inj h2 g2]
end
mutual
theorem NkIs.keep{h h':Heap}(k:∀(a:Addr)(o:Obj)(its:Array Value)(n:Nat),h.get? a=some o->o.data=.seq its n->h'.get? a=some o):∀{x:WData} {v:Value},NkIs h x v->NkIs h' x v
 |_,_,.non=>.non
 |_,_,.int=>.int
 |_,_,.str=>.str
 |_,_,.tup h1 h2 h3 h4=>.tup (k _ _ _ _ h1 h3) h2 h3 (NksIs.keep k h4)
theorem NksIs.keep{h h':Heap}(k:∀(a:Addr)(o:Obj)(its:Array Value)(n:Nat),h.get? a=some o->o.data=.seq its n->h'.get? a=some o):∀{x:List WData} {v:List Value},NksIs h x v->NksIs h' x v
 |_,_,.nil=>.nil
 |_,_,.cons h1 h2=>.cons (NkIs.keep k h1) (NksIs.keep k h2)
end
theorem NksIs.length{h:Heap}:∀{x:List WData} {v:List Value},NksIs h x v->x.length=v.length
 |_,_,.nil=>rfl
 |_,_,.cons _ t=>by rw [cW,cW,NksIs.length t]
theorem NksIs.at{h:Heap}:∀{x:List WData} {v:List Value} {j:Nat} {u:Value},NksIs h x v->v[j]?=some u->∃k,x[j]?=some k/\NkIs h k u
 |_,_,_,_,.nil,e=>by simp at e
 |_,_,0,_,.cons r _,e=>by simp at e;subst e;exact zn _ rfl r
 |_,_,j+1,u,.cons _ t,e=>by obtain ⟨k,h1,h2⟩:=NksIs.at (j:=j) (u:=u) t (by simpa using e);exact zn k (by simpa using h1) h2
theorem jK:∀{xs:List WData} {x:WData},x∈xs->dpN x<=iD xs
 |y::r,x,h=>by
  rw [iD];rcases zq12.mp h with rfl | h
  ·exact Nat.le_max_left _ _
  ·exact dI (jK h) (Nat.le_max_right _ _)
section
variable {prog:Program} {w:World} {E:Value->Shared->Prop}
mutual
theorem ui:∀{k:WData} {v:Value} {A:Around} {s:Shared} {Q:Int->Shared->Prop},NkIs s.heap k v->A.units+dpN k<cLine->Q (hashW w.params k) {s with toks:=s.toks+tkN k}->wpAny (model prog w) A (pyHash v) Q E s
 |_,_,A,s,Q,.non,hu,q=>pyHash_slot (T:="NoneType") rfl F.slot_NoneType_hash F.entry_NoneType_hash (F.args_NoneType_hash_1 _) (beq_builtin_none _) (.inr (qX (nR _ _) hu)) (zq2 (zq4 (zq2 (wpAny_mkInt (zq4 (zAD _ _ rfl q))))))
 |_,_,A,s,Q,.int (i:=i),hu,q=>wpAny_pyHash_int (hashW_int w.params i ▸ q)
 |_,_,A,s,Q,.str,hu,q=>wpAny_pyHash_str q
 |_,_,A,s,Q,.tup (a:=a) (xs:=xs) h1 h2 h3 h4,hu,q=>by rw [dpN] at hu;refine pyHash_slot (T:="tuple") (zn _ h1 h2) F.slot_tuple_hash F.entry_tuple_hash (F.args_tuple_hash_1 _) (beq_builtin_none _) (.inr Jlk) ?_;refine zq2 (zq4 (zq2 (wpAny_tupleItemsOf h1 h3 (zq2 ?_))));rw [<- Array.forIn_toList];refine oW (b:=#[]) h4 (by rw [Around.in1_units];omega) fun b hb=>?_;refine zq2 (wpAny_mkInt (zq4 (zAD _ _ rfl ?_)));rw [hb];rw [tkN,hashW,<- Nat.add_assoc] at q;exact q
theorem oW:∀{ks:List WData} {vs:List Value} {A:Around} {s:Shared} {b:Array Int} {Q:Array Int->Shared->Prop},NksIs s.heap ks vs->A.units+iD ks<cLine->
  (∀b':Array Int,b'.toList=b.toList++hashesW w.params ks->Q b' {s with toks:=s.toks+Dg ks})->wpAny (model prog w) A (forIn vs b fun x r=>do let z <- pyHash x;pure PUnit.unit;pure (ForInStep.yield (r.push z))) Q E s
 |_,_,A,s,b,Q,.nil,_,q=>zq4 (q b (by rw [hashesW,ix]))
 |_,_,A,s,b,Q,.cons (k:=k) (ks:=ks) h1 h2,hu,q=>by rw [iD] at hu;rw [B0];refine zq2 (zq2 (ui h1 (qX (vE (Nat.le_max_left _ _) _) hu) (zq2 (zq4 (zq4 ?_)))));refine oW (s:={s with toks:=s.toks+tkN k}) h2 (qX (vE (Nat.le_max_right _ _) _) hu) fun b' hb=>?_;have z:=q b' (by rw [hb,hashesW,Array.toList_push,xx];rfl);rw [Dg,<- Nat.add_assoc] at z;exact z
end
theorem C1{x y:List WData}:((List.range (min x.length y.length)).all (fun j=>decide (x[j]?=y[j]?))&&x.length==y.length)=decide (WData.tuple x=WData.tuple y):=by
 rw [iX,eG,zq44,nP,zq68]
 constructor
 ·rintro ⟨h,hl⟩;have e:x=y:=by
   apply qM;intro j
   by_cases hj:j<x.length
   ·exact of_decide_eq_true (h j (zq40.mpr Jlk))
   ·rw [kX Jlk,kX Jlk]
  rw [e]
 ·intro e;injection e with e;subst e;exact ⟨fun j _=>cf rfl,rfl⟩
theorem Io:∀(n:Nat){x y:WData} {v u:Value} {A:Around} {s:Shared},dpN x<=n->NkIs s.heap x v->NkIs s.heap y u->A.units+n<cLine->SeqAt.EqAt A s v u (decide (x=y)):=by
 intro n
 induction n with
 |zero=>
  intro x y v u A s hd hx hy hu
  cases hx with
  |tup=>rw [dpN] at hd;omega
  |non=>
   cases hy with
   |non=>rw [cf rfl];exact SeqAt.EqAt.same _
   |int=>rw [bC (fun z=>nomatch z)];exact SeqAt.EqAt.none_int _ _
   |str=>rw [bC (fun z=>nomatch z)];exact SeqAt.EqAt.none_str _ _
   |tup h1 h2 h3 h4=>rw [bC (fun z=>nomatch z)];exact SeqAt.EqAt.none_tuple (zAC _ h1 h2 ⟨_,h3⟩) hu
  | @int i t=>
   cases hy with
   |non=>rw [bC (fun z=>nomatch z)];exact SeqAt.EqAt.int_none _ _
   | @int j _=>
    have e:decide (WData.int i=WData.int j)=(i==j):=by rw [iX,nP,zq68];exact ⟨fun z=>by injection z,fun z=>by rw [z]⟩
    rw [e];exact SeqAt.EqAt.int_int _ _ _ _
   |str=>rw [bC (fun z=>nomatch z)];exact SeqAt.EqAt.int_str _ _ _ _
   |tup h1 h2 h3 h4=>rw [bC (fun z=>nomatch z)];exact SeqAt.EqAt.int_tuple _ _ (zAC _ h1 h2 ⟨_,h3⟩) hu
  | @str i t=>
   cases hy with
   |non=>rw [bC (fun z=>nomatch z)];exact SeqAt.EqAt.str_none _ _
   |int=>rw [bC (fun z=>nomatch z)];exact SeqAt.EqAt.str_int _ _ _ _
   | @str j _=>
    have e:decide (WData.str i=WData.str j)=(i==j):=by rw [iX,nP,zq68];exact ⟨fun z=>by injection z,fun z=>by rw [z]⟩
    rw [e];exact SeqAt.EqAt.str_str _ _ _ _
   |tup h1 h2 h3 h4=>rw [bC (fun z=>nomatch z)];exact SeqAt.EqAt.str_tuple _ _ (zAC _ h1 h2 ⟨_,h3⟩) hu
 |succ n ih=>
  intro x y v u A s hd hx hy hu;have hu0:A.units<cLine:=by omega
  cases hx with
  |non=>exact ih (cq _) .non hy Jlk
  |int=>exact ih (cq _) .int hy Jlk
  |str=>exact ih (cq _) .str hy Jlk
  | @tup a oa ia na xs h1 h2 h3 h4=>
   cases hy with
   |non=>rw [bC (fun z=>nomatch z)];exact SeqAt.EqAt.tuple_none (zAC _ h1 h2 ⟨_,h3⟩) hu0
   |int=>rw [bC (fun z=>nomatch z)];exact SeqAt.EqAt.tuple_int _ _ (zAC _ h1 h2 ⟨_,h3⟩) hu0
   |str=>rw [bC (fun z=>nomatch z)];exact SeqAt.EqAt.tuple_str _ _ (zAC _ h1 h2 ⟨_,h3⟩) hu0
   | @tup b ob ib nb ys g1 g2 g3 g4=>
    by_cases hab:a=b
    ·subst hab;rw [cf (NkIs.inj (NkIs.tup h1 h2 h3 h4) (NkIs.tup g1 g2 g3 g4))];exact SeqAt.EqAt.same _
    ·have la:ia.size=xs.length:=by rw [<- By,h4.length]
     have lb:ib.size=ys.length:=by rw [<- By,g4.length]
     rw [dpN] at hd;have z:=SeqAt.RcAt.tuples (A:=A) (e:=fun j=>decide (xs[j]?=ys[j]?)) (show s.heap.IsTuple a ia from zAC _ h1 h2 ⟨_,h3⟩) (show s.heap.IsTuple b ib from zAC _ g1 g2 ⟨_,g3⟩) hu0 fun j j1 j2=>by
      obtain ⟨k,hk,hkv⟩:=h4.at (j:=j) (u:=ia[j]) (by rw [vD,EU j1]);obtain ⟨l,hl,hlv⟩:=g4.at (j:=j) (u:=ib[j]) (by rw [vD,EU j2]);have e:decide (xs[j]?=ys[j]?)=decide (k=l):=by rw [hk,hl,iX,nP,nP];exact ⟨fun z=>Option.some.inj z,fun z=>by rw [z]⟩
      rw [e];exact ih (dI (jK (bD hk)) Jlk) hkv hlv (by rw [Around.in1_units];omega)
     rw [la,lb,C1] at z;exact SeqAt.EqAt.of_refs hab z
theorem zC:∀(n:Nat){x:WData} {v:Value} {A:Around} {s:Shared} {Q:Bool->Shared->Prop},dpN x<=n->NkIs s.heap x v->Q true s->wpAny (model prog w) A (eqIsQuiet n v) Q E s:=by
 intro n
 induction n with
 |zero=>
  intro x v A s Q hd hx q
  cases hx with
  |tup=>rw [dpN] at hd;omega
  |non=>rw [eqIsQuiet_byValue 0 rfl];exact zq4 q
  |int=>rw [eqIsQuiet_byValue 0 rfl];exact zq4 q
  |str=>rw [eqIsQuiet_byValue 0 rfl];exact zq4 q
 |succ n ih=>
  intro x v A s Q hd hx q
  cases hx with
  |non=>rw [eqIsQuiet_byValue _ rfl];exact zq4 q
  |int=>rw [eqIsQuiet_byValue _ rfl];exact zq4 q
  |str=>rw [eqIsQuiet_byValue _ rfl];exact zq4 q
  | @tup a oa ia na xs h1 h2 h3 h4=>
   rw [dpN] at hd;have hT:s.TypeIs (.ref a) "tuple":=zn _ h1 h2
   unfold eqIsQuiet;refine zq2 (wpAny_specialOf hT F.slot_tuple_eq.lookup (zq2 (wpAny_isInstance hT isSubtype_tuple_tuple ?_)));rw [zq0 Jkm];refine zq2 (wpAny_seqItems h1 h3 (zq2 ?_));show wpAny _ _ (forIn ia _ _) _ _ s;rw [<- Array.forIn_toList];refine wpAny_forIn_list _ (fun dh r s'=>r.1=none/\s'=s/\∃left,NksIs s.heap left dh/\∀k∈left,dpN k<=n) _ ?_ ?_ _ _ (zAB rfl rfl (zn xs h4 (fun k hk=>dI (jK hk) Jlk)))
   ·rintro u dh r s' ⟨hr,rfl,left,hl,hk⟩
    cases hl with
    | @cons k _ ks _ l1 l2=>refine zq2 (ih (hk k (cV ..)) l1 ?_);rw [zq0 Jkm];exact zq4 (zAB rfl rfl (zn ks l2 fun j hj=>hk j (zq9 _ hj)))
   ·rintro ⟨r1,r2⟩ s' ⟨hr,rfl,_⟩;have e:r1=none:=hr;subst e;exact zq4 q
end
def mW(prog:Program)(w:World):HeapKind prog w WData where
 is:=fun h k a=>NkIs h k (.ref a)/\dpN k<=8
 hash:=hashW w.params
 draws:=tkN
 room:=fun A=>A.units+8<cLine
 inj:=fun hx hy=>hx.1.inj hy.1
 keeps:=fun x ho hd hs=>⟨x.1.keep fun a o its n e ed=>(hs.2 a fun z=>by
  subst z;rw [ho] at e
  cases e
  rw [hd] at ed
  cases ed).trans e,x.2⟩
 pyHash:=fun hu hk h=>ui hk.1 (by have:=hk.2;omega) h
 eqBool:=fun hu hx hy h=>Io 8 hx.2 hx.1 hy.1 hu _ _ _ _ h
 quiet:=fun hk h=>zC 8 hk.2 hk.1 h
end GV
namespace L2
open PySem PySem.Spec PySem.W PyProof.Rows GV
variable {H':Hp} {Q:VK}
mutual
inductive NkV (K:W.Frag) (H:Hp):WData->V->Prop where
 |non:NkV K H .none .non
 |int {i:Int}:NkV K H (.int i) (.int i)
 |str {x:Str}:NkV K H (.str x) (.str x)
 |tup {a:Addr} {xs:List WData} {vs:List V}:SqT K H a vs->NksV K H xs vs->NkV K H (.tuple xs) (.ref a)
inductive NksV (K:W.Frag) (H:Hp):List WData->List V->Prop where
 |nil:NksV K H [] []
 |cons {k:WData} {x:V} {ks:List WData} {xs:List V}:NkV K H k x->NksV K H ks xs->NksV K H (k::ks) (x::xs)
end
mutual
theorem NkV.keep{K:W.Frag}{H:Hp}(t:TSame H H'):∀{k:WData} {x:V},NkV K H k x->NkV K H' k x
 |_,_,.non=>.non
 |_,_,.int=>.int
 |_,_,.str=>.str
 |_,_,.tup h1 h2=>.tup (t.seqT h1) (NksV.keep t h2)
theorem NksV.keep{K:W.Frag}{H:Hp}(t:TSame H H'):∀{k:List WData} {x:List V},NksV K H k x->NksV K H' k x
 |_,_,.nil=>.nil
 |_,_,.cons h1 h2=>.cons (NkV.keep t h1) (NksV.keep t h2)
end
theorem NksV.of{K:W.Frag}{H:Hp}{α:Type}{f:α->WData}{g:α->V}:∀{l:List α},(∀x∈l,NkV K H (f x) (g x))->NksV K H (l.map f) (l.map g)
 | [],_=>.nil
 |x::l,h=>.cons (h x (cV ..)) (NksV.of fun y hy=>h y (zq9 _ hy))
section
variable {X:Cx} {pins:List (Addr×Obj)} {σ:St} {H:Hp} {s:Shared}
mutual
theorem NkV.is(I:Inv X pins σ H s):∀{k:WData} {x:V} {u:Value},NkV X.K H k x->RelV x u->NkIs s.heap k u
 |_,_,_,.non,r=>by cases r;exact .non
 |_,_,_,.int,r=>by obtain ⟨t,rfl⟩:=r;exact .int
 |_,_,_,.str,r=>by obtain ⟨t,rfl⟩:=r;exact .str
 |_,_,_,.tup h1 h2,r=>by
  cases r
  obtain ⟨its,rv,⟨o,e1,e2,n,e3⟩,_⟩:=I.tuple h1;exact .tup e1 e2 e3 (NksV.is I h2 (by simpa using rv))
theorem NksV.is(I:Inv X pins σ H s):∀{k:List WData} {x:List V} {u:List Value},NksV X.K H k x->Vals x u->NksIs s.heap k u
 |_,_,_,.nil,r=>by cases r;exact .nil
 |_,_,_,.cons h1 h2,r=>by
  cases r with
  |cons r1 r2=>exact .cons (NkV.is I h1 r1) (NksV.is I h2 r2)
end
end
def kP(pr:Params)(d:Addr)(es:List (WData×Addr×V)):HO:=.ext fun h=>es.length<=sizeLine/\(d==sysModules)=false/\∃(xs:List (WData×Addr×Value)) (o:Obj) (en:Array DictEntry) (ep:Nat),
 Paired (fun (p:WData×Addr×V) (q:WData×Addr×Value)=>p.1=q.1/\p.2.1=q.2.1/\RelV p.2.2 q.2.2) es xs/\h.get? d=some o/\o.ExactDict/\o.data=.dict en ep/\en.toList=xs.map (fun x=>(⟨hashW pr x.1,.ref x.2.1,x.2.2⟩:DictEntry))/\(xs.map (·.1)).Nodup
def DnAt(pr:Params)(K:W.Frag)(H:Hp)(d:Addr)(kvs:List (WData×V)):Prop:=∃es:List (WData×Addr×V),H d=some (kP pr d es)/\kvs=es.map (fun p=>(p.1,p.2.2))/\∀p∈es,NkV K H p.1 (.ref p.2.1)/\dpN p.1<=8
theorem DnAt.same{pr:Params}{K:W.Frag}{H:Hp}{d:Addr}{kvs:List (WData×V)}(h:DnAt pr K H d kvs)(s:Same H H'):DnAt pr K H' d kvs:=by obtain ⟨es,h1,h2,h3⟩:=h;exact zAC es (s _ _ h1) h2 fun p hp=>⟨(h3 p hp).1.keep s.ts,(h3 p hp).2⟩
section
variable {X:Cx} {pins:List (Addr×Obj)} {σ:St} {H:Hp} {s:Shared} {d:Addr} {kvs:List (WData×V)} {es:List (WData×Addr×V)}
abbrev DnR (kv:WData×V) (x:WData×Addr×Value):Prop:=kv.1=x.1/\RelV kv.2 x.2.2
theorem rE{xs:List (WData×Addr×Value)}:∀{es:List (WData×Addr×V)} {xs:List (WData×Addr×Value)},Paired (fun (p:WData×Addr×V) (q:WData×Addr×Value)=>p.1=q.1/\p.2.1=q.2.1/\RelV p.2.2 q.2.2) es xs->Paired DnR (es.map fun p=>(p.1,p.2.2)) xs
 |_,_,.nil=>.nil
 |_,_,.cons h t=>.cons ⟨h.1,h.2.2⟩ (rE (xs:=xs) t)
theorem u9:∀{es:List (WData×Addr×V)} {xs:List (WData×Addr×Value)},Paired (fun (p:WData×Addr×V) (q:WData×Addr×Value)=>p.1=q.1/\p.2.1=q.2.1/\RelV p.2.2 q.2.2) es xs->∀q∈xs,∃p∈es,p.1=q.1/\p.2.1=q.2.1
 |_,_,.nil=>fun q h=>by cases h
 |_,_,.cons h t=>fun q hq=>by
  rcases zq12.mp hq with rfl | hq
  ·exact zAC _ (cV ..) h.1 h.2.1
  ·obtain ⟨p,hp,e⟩:=u9 t q hq;exact zn p (zq9 _ hp) e
theorem rF:∀{kvs:List (WData×V)} {xs:List (WData×Addr×Value)} (k:WData),Paired DnR kvs xs->RelO (bh kvs k) ((atKey xs k).map (·.2))
 |_,_,k,.nil=>trivial
 |_,_,k,.cons (a:=a) (b:=b) (l₂:=l) h t=>by
  by_cases e:a.1=k
  ·rw [bB e,show atKey (b::l) k=some b.2 by simp [atKey,List.find?_cons,<- h.1,e]];exact h.2
  ·rw [bv e,show atKey (b::l) k=atKey l k by simp [atKey,List.find?_cons,<- h.1,e]];exact rF k t
theorem yc(I:Inv X pins σ H s)(h1:H d=some (kP X.w.params d es))(h3:∀p∈es,NkV X.K H p.1 (.ref p.2.1)/\dpN p.1<=8):es.length<=sizeLine/\(d==sysModules)=false/\∃xs,Paired (fun (p:WData×Addr×V) (q:WData×Addr×Value)=>p.1=q.1/\p.2.1=q.2.1/\RelV p.2.2 q.2.2) es xs/\s.heap.DictOfH (mW X.prog X.w) d xs:=by obtain ⟨⟨z,hd,xs,o,en,ep,rel,e1,e2,e3,e4,e5⟩,_⟩:=I.hok d _ h1;refine zAB z hd (zn xs rel (zBD o en ep e1 e2 e3 e4 (fun x hx=>?_) e5));obtain ⟨p,hp,ek,ea⟩:=u9 rel x hx;obtain ⟨hk,hd8⟩:=h3 p hp;rw [<- ek,<- ea];exact ⟨hk.is I rfl,hd8⟩
theorem yb(I:Inv X pins σ H s)(h:DnAt X.w.params X.K H d kvs):kvs.length<=sizeLine/\(d==sysModules)=false/\∃xs,Paired DnR kvs xs/\s.heap.DictOfH (mW X.prog X.w) d xs:=by obtain ⟨es,h1,rfl,h3⟩:=h;obtain ⟨z,hd,xs,rel,dd⟩:=yc I h1 h3;exact zAB (by rw [zq3];exact z) hd (zn xs (rE (xs:=xs) rel) dd)
theorem lZ{α β:Type}{F:α->β->Prop}{a:α}{b:β}(hf:F a b):∀{l:List α} {m:List β},Paired F l m->Paired F (l++[a]) (m++[b])
 |_,_,.nil=>.cons hf .nil
 |_,_,.cons h t=>.cons h (lZ hf t)
end
section
variable {X:Cx}
theorem ua{A:Around}(hu:A.units+9<cLine):A.in1.units+8<cLine:=by rw [Around.in1_units];omega
def Ay(pr:Params):TE:=fun _ H Q=>∀p,H p=none->Q (.ref p) (upd H p (kP pr p []))
theorem uc{pr:Params}{d:Addr}{es:List (WData×Addr×V)}{φ:Heap->Prop}(e:kP pr d es=.ext φ):∀h1 h2:Heap,φ h1->(∀o,h1.get? d=some o->h2.get? d=some o)->φ h2:=by
 unfold kP at e
 cases e
 rintro h1 h2 ⟨z,hd,xs,o,en,ep,rel,e1,r⟩ k;exact zAB z hd (zBE xs o en ep (zAB rel (k _ e1) r))
theorem xo{pos:Pos}:XE X (.Dict [] [] pos) (Ay X.w.params):=⟨fun pins s σ H Q I h=>
 wpAny_Dict_empty ⟨.ref s.heap.objs.size,_,I.laid (a:=s.heap.objs.size) (o:=kP X.w.params s.heap.objs.size []) (t':=s.toks) (fun _ _ q=>cc _ q) (zq5 _)
  (zAB (zAB (cq _) (beq_eq_false_iff_ne.mpr (Ne.symm (cF I.big))) (zAT ([]) _ (#[]) 0 .nil (du _ rfl) (zAB rfl rfl rfl) rfl rfl BB)) ⟨_,du _ rfl⟩ (uc rfl)),rfl,h _ (I.hok.fresh (zq5 _))⟩⟩
theorem uO{pr:Params}{σ:St}{H:Hp}:Ay pr σ H Q=∀p,H p=none->Q (.ref p) (upd H p (kP pr p [])):=rfl
theorem DnAt.new{pr:Params}{K:W.Frag}{H:Hp}{p:Addr}:DnAt pr K (upd H p (kP pr p [])) p []:=zAC ([]) ac rfl (fun p hp=>by cases hp)
def Aw(pr:Params)(K:W.Frag)(td tk:TE):TE:=fun σ H Q=>td σ H fun x H1=>tk σ H1 fun y H2=>∃(d b:Addr)(kvs:List (WData×V)) (k:WData) (v:V),x=.ref d/\y=.ref b/\DnAt pr K H2 d kvs/\NkV K H2 k (.ref b)/\dpN k<=8/\bh kvs k=some v/\Q v H2
theorem xn{o i:Expr}{pos:Pos}{td tk:TE}(hu:X.A.units+9<cLine)(ho:XE X o td)(hi:XE X i tk)(hs:F1 i):XE X (.Subscript o i pos) (Aw X.w.params X.K td tk):=⟨by
 intro pins s σ H Q I h;refine vn PySem.F.slot_dict_getitem.lookup hs (thn (ho.h pins s σ H _ I h) fun u s1 ⟨x,H1,I1,rx,q1⟩=>thn (hi.h pins s1 σ H1 _ I1 q1) fun iv s2 hhx=>?_);obtain ⟨y,H2,I2,ry,d,b,kvs,k,v,ex,ey,hD,hk,hk8,hv,q2⟩:=hhx;subst ex ey
 cases rx
 cases ry
 obtain ⟨z,hd,xs,rel,dd⟩:=yb I2 hD;have rk:=rF k rel;rw [hv] at rk
 cases hp:atKey xs k with
 |none=>rw [hp] at rk;exact rk.elim
 |some p=>rw [hp] at rk;exact ⟨dd.typeIs,wpAny_getItem_heap (knd:=mW X.prog X.w) (ua hu) ⟨hk.is I2 rfl,hk8⟩ dd hp (zAA v H2 (I2.tok _) rk q2)⟩⟩
theorem i6{pr:Params}{K:W.Frag}{td tk:TE}{σ:St}{H:Hp}:Aw pr K td tk σ H Q=td σ H fun x H1=>tk σ H1 fun y H2=>∃(d b:Addr)(kvs:List (WData×V)) (k:WData) (v:V),x=.ref d/\y=.ref b/\DnAt pr K H2 d kvs/\NkV K H2 k (.ref b)/\dpN k<=8/\bh kvs k=some v/\Q v H2:=rfl
def DA(pr:Params)(K:W.Frag):List V->Hp->VK->Prop:=fun xs H Q=>∃(d:Addr)(kvs:List (WData×V)),xs=[.ref d]/\DnAt pr K H d kvs/\Q (.int kvs.length) H
theorem vS:dP X (.builtin "len") (DA X.w.params X.K):=by
 intro pins s σ H xs us Q I r h;obtain ⟨d,kvs,rfl,hD,q⟩:=h;obtain ⟨u,rfl,ru⟩:=fH r
 cases ru
 obtain ⟨z,hd,xs,rel,o,en,ep,e1,e2,e3,e4,e5,e6⟩:=yb I hD;have hsz:en.size=kvs.length:=by rw [<- By,e4,zq3];exact (Paired.length rel).symm
 have hT:s.TypeIs (.ref d) "dict":=zn o e1 e2.1
 rw [zq8] at z;refine Calls.call_function_entry kind_len plain_len entry_len (args_len1 _) ?_;unfold Builtin.«len»;refine zq2 (zq4 (zq2 (wpAny_callSpecial?_slot (name:=Str.ofString "__len__") hT F.slot_dict_len (wpAny_call_entry F.slot_dict_len hT F.entry_dict_len ?_ (F.args_dict_len_1 _)))));unfold Builtin.«dict.__len__»;refine zq2 (zq4 (zq2 (zq4 (zq2 ?_))));unfold dictSize;refine zq2 (wpAny_dictEntries e1 e3 (zq4 (zq2 (wpAny_pendingCount_other hd (wpAny_ret_mkInt ?_)))));rw [hsz,show ((kvs.length:Int)+((0:Nat):Int))=(kvs.length:Int) from Int.add_zero _];refine zq2 (qV (zq4 (zq2 (wpAny_letGo ?_))));have n0:¬((kvs.length:Int)<0):=by omega
 have n63:¬((kvs.length:Int) ≥ 2 ^ 63):=by omega
 refine Be (fun h=>absurd h n0) fun _=>Be (fun h=>absurd h n63) fun _=>?_;exact zq2 (wpAny_mkInt (zq4 (zn _ rfl (zAA (.int kvs.length) H (I.tok _) ⟨_,rfl⟩ q))))
theorem sE{pr:Params}{K:W.Frag}{d:Addr}{H:Hp}:DA pr K [.ref d] H Q=∃kvs:List (WData×V),DnAt pr K H d kvs/\Q (.int kvs.length) H:=propext ⟨by rintro ⟨_,kvs,e,q⟩;cases e;exact ⟨kvs,q⟩,fun ⟨kvs,q⟩=>zAD _ kvs rfl q⟩
def AB(pr:Params)(K:W.Frag)(td:TE)(t:TA):TE:=fun σ H Q=>td σ H fun x H1=>∃d:Addr,x=.ref d/\(∃kvs,DnAt pr K H1 d kvs)/\t σ H1 fun vs H2=>∃(b:Addr)(kvs:List (WData×V)) (k:WData) (v:V),vs=[.ref b,v]/\DnAt pr K H2 d kvs/\NkV K H2 k (.ref b)/\dpN k<=8/\kvs.length<sizeLine/\
 (∀y,bh kvs k=some y->Q y H2)/\(bh kvs k=none->∀o,DnAt pr K (upd H2 d o) d (kvs++[(k,v)])->Q v (upd H2 d o))
theorem CF{o e:Expr}{es:List Expr}{td:TE}{t:TA}{apos cpos:Pos}(hu:X.A.units+9<cLine)(ho:PE X o td)(ha:PA X (e::es) t)
  (hbase:attributeBase o "setdefault" X.env (eval o X.env)=eval o X.env:=by rfl)
  (hfew:((backTo cpos (starEach (e::es) X.env)).all (fun x=>! x.1)&&(backToKw cpos (keywordEach [] X.env)).all (fun x=>x.1.isSome)&&decide ((e::es).length+([]:List Keyword).length+(if ([]:List Keyword).isEmpty then 0 else 1)<30))=true:=by rfl)
  (hline:(apos.endLine==cpos.line)=true:=by rfl) (hs:starEach (e::es) X.env=(false,eval e X.env)::starEach es X.env:=by rfl) (hplain:(backTo cpos (starEach es X.env)).any (·.1)=false:=by rfl) :
  PE X (.Call (.Attribute o "setdefault" apos) (e::es) [] cpos) (AB X.w.params X.K td t):=by
 intro pins s σ H Q I h;refine wpAny_Call_method_late hbase hfew hline rfl (thn (ho pins s σ H _ I h) fun v s1 ⟨x,H1,I1,r1,d,ex,⟨kv0,hD0⟩,q1⟩=>?_);subst ex
 cases r1
 obtain ⟨_,_,xs0,_,dd0⟩:=yb I1 hD0;refine zBB ("dict") _ PySem.F.plainAttrs_dict PySem.F.slot_dict_setdefault PySem.F.type_dict_setdefault dd0.typeIs (dictOfH_noDict dd0) ?_;have hA:=ha cpos pins s1 σ H1 _ I1 q1;rw [hs] at hA ⊢;refine Calls.callWith_builtin (by show (false || (backTo cpos (starEach es X.env)).any (·.1))=false;rw [hplain]<;>rfl) (Calls.evalArgs_plain (thn hA fun us s2 hhx=>?_));obtain ⟨vs,H2,I2,r2,q2⟩:=hhx;obtain ⟨b,kvs,k,v,rfl,hD,hk,hk8,hz,hq1,hq2⟩:=q2;obtain ⟨u1,u2,rfl,rb,rv⟩:=vv r2
 cases rb
 obtain ⟨es2,h1,rfl,h3⟩:=hD;obtain ⟨z,hd,xs,rel,dd⟩:=yc I2 h1 h3;have hlen:=Paired.length rel;have rk:=rF k (rE (xs:=xs) rel);refine call_meetsIn PySem.F.slot_dict_setdefault dd.typeIs PySem.F.entry_dict_setdefault (PySem.F.args_dict_setdefault_3 _ _ _) (gx (mW X.prog X.w) d b hd u2) ⟨ua hu,zAR k xs ⟨hk.is I2 rfl,hk8⟩ dd Jlk (fun p hp=>?_) fun hn h' dd' hs'=>?_⟩
 ·rw [hp] at rk
  cases hv:bh (es2.map fun p=>(p.1,p.2.2)) k with
  |none=>rw [hv] at rk;exact rk.elim
  |some y=>rw [hv] at rk;exact zAA y H2 (I2.tok _) rk (hq1 y hv)
 ·rw [hn] at rk;have hv:bh (es2.map fun p=>(p.1,p.2.2)) k=none:=by
   cases hv:bh (es2.map fun p=>(p.1,p.2.2)) k with
   |none=>rfl
   |some y=>rw [hv] at rk;exact rk.elim
  obtain ⟨q,en,ep,hq,f2,f3,f4,_,f5⟩:=dd';refine zAA v _ (fN (ob:=kP X.w.params d (es2++[(k,b,v)])) I2 (by rw [h1];exact True.intro) hs' ⟨q,hq⟩ (zAB (zAB (by rw [zq7,bV];rw [zq3] at hz;omega) hd (zAT (xs++[(k,b,u2)]) q en ep (lZ ⟨rfl,rfl,rv⟩ rel) hq f2 f3 f4 f5)) ⟨q,hq⟩ (uc rfl))) rv (hq2 hv _ (zAC (es2++[(k,b,v)]) ac (by rw [cg];rfl) fun p hp=>?_))
  ·have tt:TSame H2 (upd H2 d (kP X.w.params d (es2++[(k,b,v)]))):=⟨fun c ys e=>by rw [ao (bL e h1 (fun z=>nomatch z))];exact e,fun c o u e=>by rw [ao (bL e h1 (fun z=>nomatch z))];exact e⟩
   rcases zq18.mp hp with z | z
   ·exact ⟨(h3 p z).1.keep tt,(h3 p z).2⟩
   ·rw [zq10.mp z];exact ⟨hk.keep tt,hk8⟩
theorem AQ{o e:Expr}{es:List Expr}{td:TE}{t:TA}{apos cpos:Pos}(hu:X.A.units+9<cLine)(ho:XE X o td)(ha:XA X (e::es) t)
  (hbase:attributeBase o "setdefault" X.env (eval o X.env)=eval o X.env:=by rfl)
  (hfew:((backTo cpos (starEach (e::es) X.env)).all (fun x=>! x.1)&&(backToKw cpos (keywordEach [] X.env)).all (fun x=>x.1.isSome)&&decide ((e::es).length+([]:List Keyword).length+(if ([]:List Keyword).isEmpty then 0 else 1)<30))=true:=by rfl)
  (hline:(apos.endLine==cpos.line)=true:=by rfl) (hs:starEach (e::es) X.env=(false,eval e X.env)::starEach es X.env:=by rfl) (hplain:(backTo cpos (starEach es X.env)).any (·.1)=false:=by rfl) :
  XE X (.Call (.Attribute o "setdefault" apos) (e::es) [] cpos) (AB X.w.params X.K td t):=⟨CF hu ho.h ha.h hbase hfew hline hs hplain⟩
theorem sI{pr:Params}{K:W.Frag}{td:TE}{t:TA}{σ:St}{H:Hp}:AB pr K td t σ H Q=td σ H fun x H1=>∃d:Addr,x=.ref d/\(∃kvs,DnAt pr K H1 d kvs)/\t σ H1 fun vs H2=>∃(b:Addr)(kvs:List (WData×V)) (k:WData) (v:V),vs=[.ref b,v]/\DnAt pr K H2 d kvs/\NkV K H2 k (.ref b)/\dpN k<=8/\kvs.length<sizeLine/\
 (∀y,bh kvs k=some y->Q y H2)/\(bh kvs k=none->∀o,DnAt pr K (upd H2 d o) d (kvs++[(k,v)])->Q v (upd H2 d o)):=rfl
end
end L2
namespace GX
section
variable {α β:Type} [DecidableEq α] [DecidableEq β]
def ksF(l:List α):List α:=l.foldl (fun ks m=>if m∈ks then ks else ks++[m]) []
theorem cr{l:List α}{m:α}:ksF (l++[m])=if m∈ksF l then ksF l else ksF l++[m]:=by unfold ksF;rw [nQ];rfl
theorem Ab{P:List α->Prop}(h0:P [])(hs:∀l x,P l->P (l++[x]))(l:List α):P l:=by
 have key:∀(n:Nat)(l:List α),l.length=n->P l:=by
  intro n
  induction n with
  |zero=>intro l h;rw [zq54.mp h];exact h0
  |succ n ih=>
   intro l h;have hne:l≠[]:=fun z=>by rw [z] at h;simp at h
   rw [<- xy hne];exact hs _ _ (ih _ (by rw [nN];omega))
 exact key l.length l rfl
theorem fR(l:List α):(∀x,x∈ksF l↔x∈l)/\(ksF l).Nodup/\(ksF l).length<=l.length:=by
 refine Ab (P:=fun l=>(∀x,x∈ksF l↔x∈l)/\(ksF l).Nodup/\(ksF l).length<=l.length) (zAB (fun x=>by simp [ksF]) (by simp [ksF]) (by simp [ksF])) (fun l m ih=>?_) l;obtain ⟨h1,h2,h3⟩:=ih;rw [cr]
 by_cases h:m∈ksF l
 ·rw [zq1 h];refine zAB (fun x=>?_) h2 (by rw [zq7];omega);rw [h1,zq18,zq10];exact ⟨.inl,fun z=>z.elim id fun z=>by rw [z];exact (h1 m).mp h⟩
 ·rw [zq0 h];refine zAB (fun x=>by rw [zq18,zq18,h1]) ?_ (by rw [zq7,zq7];simp;exact h3);rw [zq75];refine zAB h2 Jll fun a ha b hb e=>h ?_;rw [zq10.mp hb] at e;rw [<- e];exact ha
theorem mem_ksF{l:List α}{x:α}:x∈ksF l↔x∈l:=(fR l).1 x
def dE(l:List α):List Nat:=l.map fun m=>(ksF l).idxOf m
theorem dS{l:List α}:(dE l).length=l.length:=by unfold dE;rw [zq3]
theorem gX{l:List α}{i:Nat}{x:α}(h:l[i]?=some x):(dE l)[i]?=some ((ksF l).idxOf x):=by unfold dE;rw [bE,h];rfl
theorem uk{l:List α}{x y:α}(hx:x∈l)(e:l.idxOf x=l.idxOf y):x=y:=by
 have h1:=qQ hx;have h2:l[l.idxOf x]'h1=x:=xB h1;have h3:l.idxOf y<l.length:=by rw [<- e];exact h1
 have h4:l[l.idxOf y]'h3=y:=xB h3;rw [<- h2,<- h4];congr 1
theorem dg{l:List α}{i j:Nat}{x y:α}(hi:l[i]?=some x)(hj:l[j]?=some y):(dE l)[i]?=(dE l)[j]?↔x=y:=by
 rw [gX hi,gX hj]
 constructor
 ·intro e;exact uk (mem_ksF.mpr (bD hi)) (Option.some.inj e)
 ·rintro rfl;rfl
theorem take_mem{l:List α}{k:Nat}{x:α}:x∈l.take k↔∃i,i<k/\l[i]?=some x:=by
 rw [zq76]
 constructor
 ·rintro ⟨i,h⟩;rw [List.getElem?_take] at h
  split at h
  ·exact zn i (by assumption) h
  ·cases h
 ·rintro ⟨i,hi,h⟩;exact ⟨i,by rw [List.getElem?_take,zq1 hi];exact h⟩
theorem Ci{a:List α}{b:List β}(hl:a.length=b.length)(h:∀(i j:Nat)(x x':α)(y y':β),a[i]?=some x->a[j]?=some x'->b[i]?=some y->b[j]?=some y'->(x=x'↔y=y')):
  ∀k,k<=a.length->(ksF (a.take k)).length=(ksF (b.take k)).length/\∀(i:Nat)(x:α)(y:β),i<k->a[i]?=some x->b[i]?=some y->(ksF (a.take k)).idxOf x=(ksF (b.take k)).idxOf y:=by
 intro k
 induction k with
 |zero=>intro _;exact ⟨by simp [ksF],fun i x y hi=>Jlk⟩
 |succ k ih=>
  intro hk;obtain ⟨ih1,ih2⟩:=ih Jlk;have ha:k<a.length:=hk;have hb:k<b.length:=by omega
  have ea:a[k]?=some a[k]:=zq6 ha;have eb:b[k]?=some b[k]:=zq6 hb;rw [dy ha,dy hb,cr,cr];have hm:a[k]∈ksF (a.take k)↔b[k]∈ksF (b.take k):=by
   rw [mem_ksF,mem_ksF,take_mem,take_mem]
   constructor
   ·rintro ⟨i,hi,e⟩;have e2:b[i]?=some b[i]:=zq6 Jlk;exact zn i hi (by rw [e2,(h i k _ _ _ _ e ea e2 eb).mp rfl])
   ·rintro ⟨i,hi,e⟩;have e2:a[i]?=some a[i]:=zq6 Jlk;exact zn i hi (by rw [e2,(h i k _ _ _ _ e2 ea e eb).mpr rfl])
  by_cases hc:a[k]∈ksF (a.take k)
  ·rw [zq1 hc,zq1 (hm.mp hc)];refine ⟨ih1,fun i x y hi hx hy=>?_⟩
   by_cases hik:i<k
   ·exact ih2 i x y hik hx hy
   ·obtain rfl:i=k:=by omega
    obtain ⟨j,hj,e⟩:=take_mem.mp (mem_ksF.mp hc);have e2:b[j]?=some b[j]:=zq6 Jlk;rw [ea] at hx;rw [eb] at hy
    cases hx
    cases hy
    have e3:=(h j i _ _ _ _ e ea e2 eb).mp rfl;have z:=ih2 j _ _ hj e e2;rw [e3] at z;exact z
  ·rw [zq0 hc,zq0 (fun z=>hc (hm.mpr z))];refine ⟨by rw [zq7,zq7,ih1];rfl,fun i x y hi hx hy=>?_⟩
   by_cases hik:i<k
   ·rw [qR,qR,zq1 (mem_ksF.mpr (take_mem.mpr (zn i hik hx))),zq1 (mem_ksF.mpr (take_mem.mpr (zn i hik hy)))];exact ih2 i x y hik hx hy
   ·obtain rfl:i=k:=by omega
    rw [ea] at hx;rw [eb] at hy
    cases hx
    cases hy
    rw [qR,qR,zq0 hc,zq0 (fun z=>hc (hm.mpr z)),ih1,qS,qS]
theorem pK{a:List α}{b:List β}(hl:a.length=b.length)(h:∀(i j:Nat)(x x':α)(y y':β),a[i]?=some x->a[j]?=some x'->b[i]?=some y->b[j]?=some y'->(x=x'↔y=y')):dE a=dE b:=by
 obtain ⟨_,h2⟩:=Ci hl h a.length (zq5 _);rw [dZ,hl,dZ] at h2;apply qM;intro i
 by_cases hi:i<a.length
 ·have ea:a[i]?=some a[i]:=zq6 hi;have eb:b[i]?=some b[i]:=zq6 Jlk;rw [gX ea,gX eb,h2 i _ _ Jlk ea eb]
 ·rw [kX (by rw [dS];omega),kX (by rw [dS];omega)]
theorem lV{l:List α}:dE (dE l)=dE l:=by refine pK dS fun i j x x' y y' hx hx' hy hy'=>?_;have z:=dg hy hy';rw [hx,hx'] at z;exact ⟨fun e=>z.mp (by rw [e]),fun e=>Option.some.inj (z.mpr e)⟩
def dU(c:List Nat):Nat:=((List.range c.length).map fun i=>((List.range c.length).countP fun j=>decide (c[i]?=c[j]?))).sum
theorem As{γ:Type}{f g:γ->Nat}:∀{l:List γ},(∀x∈l,f x<=g x)->(∃x∈l,f x<g x)->(l.map f).sum<(l.map g).sum
 | [],_,⟨x,h,_⟩=>by cases h
 |y::l,h1,⟨x,h,h2⟩=>by
  have hy:=h1 y (cV ..);rw [ce,ce,tG,tG];rcases zq12.mp h with rfl | h
  ·have:(l.map f).sum<=(l.map g).sum:=by
    clear h2 hy
    induction l with
    |nil=>exact zq5 _
    |cons z l ih=>
     rw [ce,ce,tG,tG];have:=h1 z (zq9 _ (cV ..));have:=ih (fun w hw=>by
      rcases zq12.mp hw with e | e
      ·exact h1 w (by rw [e];exact cV ..)
      ·exact h1 w (zq9 _ (zq9 _ e))) (cV ..)
     omega
   omega
  ·have:=As (fun z hz=>h1 z (zq9 _ hz)) (zn x h h2);omega
theorem lG{γ:Type}{p q:γ->Bool}:∀{l:List γ},(∀x∈l,p x=true->q x=true)->(∃x∈l,p x=false/\q x=true)->l.countP p<l.countP q
 | [],_,⟨x,h,_⟩=>by cases h
 |y::l,h1,⟨x,h,h2,h3⟩=>by
  have mono:l.countP p<=l.countP q:=EV fun z hz=>h1 z (zq9 _ hz);rw [xv,xv];rcases zq12.mp h with rfl | h
  ·rw [h2,h3];simp;omega
  ·have:=lG (fun z hz=>h1 z (zq9 _ hz)) (zAC x h h2 h3)
   cases e:p y with
   |false=>simp;omega
   |true=>rw [h1 y (cV ..) e];simp;omega
theorem ze{l:List α}{c:List Nat}(hl:l.length=c.length)(hc:dE c=c)(hf:∀(i j:Nat)(x:α),l[i]?=some x->l[j]?=some x->c[i]?=c[j]?)(hn:dE l≠c):dU (dE l)<dU c:=by
 have hlen:(dE l).length=c.length:=by rw [dS,hl]
 have fine:∀i j,i<c.length->j<c.length->(dE l)[i]?=(dE l)[j]?->c[i]?=c[j]?:=fun i j hi hj e=>by have ei:l[i]?=some l[i]:=zq6 Jlk;have ej:l[j]?=some l[j]:=zq6 Jlk;have z:=(dg ei ej).mp e;exact hf i j _ ei (by rw [ej,z])
 have ex:∃i j,i<c.length/\j<c.length/\c[i]?=c[j]?/\¬(dE l)[i]?=(dE l)[j]?:=qP fun hno=>hn (by
  rw [<- hc];refine pK hl fun i j x x' y y' hx hx' hy hy'=>?_;have hi:=(zq11.mp hy).1;have hj:=(zq11.mp hy').1
  constructor
  ·rintro rfl;have:=hf i j x hx hx';rw [hy,hy'] at this;exact Option.some.inj this
  ·rintro rfl;refine qP fun hne=>hno (zAE i j hi hj (by rw [hy,hy']) fun e=>hne ((dg hx hx').mp e)))
 obtain ⟨i0,j0,hi0,hj0,e1,e2⟩:=ex;unfold dU;rw [hlen];refine As (fun i hi=>EV fun j hj e=>cf (fine i j (zq40.mp hi) (zq40.mp hj) (of_decide_eq_true e))) (zn i0 (zq40.mpr hi0) (lG (fun j hj e=>cf (fine i0 j hi0 (zq40.mp hj) (of_decide_eq_true e))) (zAC j0 (zq40.mpr hj0) (bC e2) (cf e1))))
end
end GX
namespace GY
open PySem PySem.W L2 FB FZ GX
variable {c:List Nat}
def vW:V->WData
 | .int i=>.int i
 | .str s=>.str s
 |_=>.none
def mG(d:Deed):WData:=.tuple (d.vs.map vW)
def cG:Ed->WData
 | .choose n _ _=>.tuple [.str "choose",.str n]
 | .go _=>.tuple [.str "go",.none]
 | .stop=>.tuple [.str "stop",.none]
def mk0(b:Blk):WData:=.tuple [.tuple (b.ds.map mG),cG b.ed]
def mk1(c:List Nat)(b:Blk)(own:Nat):WData:=.tuple [.int own,.tuple (b.ed.tg.map fun i=>.int (c.getD i 0))]
def cl0(F:List Blk):List Nat:=dE (F.map mk0)
def nxt(F:List Blk)(c:List Nat):List Nat:=dE (List.zipWith (mk1 c) F c)
theorem ju{o p:Opd}(h:vW o.v=vW p.v):o=p:=by cases o<;>cases p<;>first | (injection h with h;rw [h]) | (cases h)
theorem y7{d e:Deed}(h:mG d=mG e):d=e:=by
 unfold mG at h;injection h with h
 cases d<;>cases e<;>simp only [Deed.vs,List.map_cons,List.map_nil,List.cons.injEq,and_true,reduceCtorEq,and_false] at h
 ·rw [ju h.2]
 ·obtain ⟨_,h2,h3⟩:=h;injection h2 with h2;rw [h2,ju h3]
 ·obtain ⟨h1,h2,h3,h4⟩:=h;injection h1 with h1;injection h2 with h2;rw [h1,h2,ju h3,ju h4]
theorem jt{α β:Type}{f:α->β}(hf:∀x y,f x=f y->x=y):∀{l m:List α},l.map f=m.map f->l=m
 | [],[],_=>rfl
 | [],_::_,h=>by cases h
 |_::_,[],h=>by cases h
 |x::l,y::m,h=>by rw [ce,ce] at h;injection h with h1 h2;rw [hf x y h1,jt hf h2]
theorem mk0_iff{a b:Blk}:mk0 a=mk0 b↔a.ds=b.ds/\cG a.ed=cG b.ed:=by
 unfold mk0
 constructor
 ·intro h;injection h with h;injection h with h1 h2;injection h2 with h2 _;injection h1 with h1;exact ⟨jt (fun x y e=>y7 e) h1,h2⟩
 ·rintro ⟨h1,h2⟩;rw [h1,h2]
theorem uv{e f:Ed}(h:cG e=cG f):e.tg.length=f.tg.length:=by cases e<;>cases f<;>first | rfl | (exfalso;simp only [cG,WData.tuple.injEq,List.cons.injEq,WData.str.injEq] at h;exact absurd h.1 Jkk)
def Bis(F:List Blk)(R:Nat->Nat->Prop):Prop:=∀(i j:Nat)(a b:Blk),F[i]?=some a->F[j]?=some b->R i j->mk0 a=mk0 b/\∀(k p q:Nat),a.ed.tg[k]?=some p->b.ed.tg[k]?=some q->R p q
structure Prt(F:List Blk)(c:List Nat):Prop where
 len:c.length=F.length
 num:dE c=c
 look:∀(i j:Nat)(a b:Blk),F[i]?=some a->F[j]?=some b->c[i]?=c[j]?->mk0 a=mk0 b
 most:∀R,Bis F R->∀(i j:Nat)(a b:Blk),F[i]?=some a->F[j]?=some b->R i j->c[i]?=c[j]?
def Led(F:List Blk):Prop:=∀b∈F,∀i∈b.ed.tg,i<F.length
theorem cls0{F:List Blk}:Prt F (cl0 F) where
 len:=by unfold cl0;rw [dS,zq3]
 num:=lV
 look:=fun i j a b ha hb e=>(dg (l:=F.map mk0) (by rw [bE,ha];rfl) (by rw [bE,hb];rfl)).mp e
 most:=fun R hR i j a b ha hb r=>(dg (l:=F.map mk0) (by rw [bE,ha];rfl) (by rw [bE,hb];rfl)).mpr (hR i j a b ha hb r).1
theorem f9{F:List Blk}(hl:c.length=F.length){i:Nat}{a:Blk}(ha:F[i]?=some a):∃o,c[i]?=some o/\(List.zipWith (mk1 c) F c)[i]?=some (mk1 c a o):=by have hi:=(zq11.mp ha).1;refine zn (c[i]' Jlk) (zq6 Jlk) ?_;rw [List.getElem?_zipWith,ha,zq6 (show i<c.length by omega)]
theorem mU{a b:Blk}{o p:Nat}(h:mk1 c a o=mk1 c b p):o=p/\a.ed.tg.map (fun i=>c.getD i 0)=b.ed.tg.map fun i=>c.getD i 0:=by
 unfold mk1 at h;injection h with h;injection h with h1 h2;injection h2 with h2 _;injection h1 with h1;injection h2 with h2;refine ⟨Int.ofNat.inj h1,?_⟩;have z:(a.ed.tg.map fun i=>c.getD i 0).map (fun n:Nat=>WData.int n)=(b.ed.tg.map fun i=>c.getD i 0).map fun n:Nat=>WData.int n:=by rw [fJ,fJ];exact h2
 exact jt (fun x y e=>by injection e with e;exact Int.ofNat.inj e) z
theorem kL{F:List Blk}(hl:c.length=F.length):(List.zipWith (mk1 c) F c).length=c.length:=by rw [List.length_zipWith];omega
theorem JW{F:List Blk}(h:Prt F c)(hL:Led F):Prt F (nxt F c) where
 len:=by unfold nxt;rw [dS,kL h.len,h.len]
 num:=lV
 look:=fun i j a b ha hb e=>by obtain ⟨o,ho,zo⟩:=f9 h.len ha;obtain ⟨p,hp,zp⟩:=f9 h.len hb;have z:=mU ((dg zo zp).mp e);exact h.look i j a b ha hb (by rw [ho,hp,z.1])
 most:=fun R hR i j a b ha hb r=>by
  obtain ⟨o,ho,zo⟩:=f9 h.len ha;obtain ⟨p,hp,zp⟩:=f9 h.len hb;obtain ⟨hm,hs⟩:=hR i j a b ha hb r;refine (dg zo zp).mpr ?_;have e1:o=p:=by have:=h.most R hR i j a b ha hb r;rw [ho,hp] at this;exact Option.some.inj this
  have e2:a.ed.tg.map (fun i=>WData.int (c.getD i 0))=b.ed.tg.map fun i=>WData.int (c.getD i 0):=by
   have hl:=uv (mk0_iff.mp hm).2;apply qM;intro k
   by_cases hk:k<a.ed.tg.length
   ·have ek:a.ed.tg[k]?=some a.ed.tg[k]:=zq6 hk;have el:b.ed.tg[k]?=some (b.ed.tg[k]' Jlk):=zq6 Jlk;rw [bE,bE,ek,el];have hp1:=hL a (bD ha) _ (bD ek);have hq1:=hL b (bD hb) _ (bD el);have z:=h.most R hR _ _ _ _ (zq6 hp1) (zq6 hq1) (hs k _ _ ek el);show some (WData.int (c.getD a.ed.tg[k] 0))=some (WData.int (c.getD (b.ed.tg[k]' Jlk) 0));rw [cw,cw,z]
   ·rw [kX (by rw [zq3];omega),kX (by rw [zq3];omega)]
  unfold mk1;rw [e1,e2]
theorem yK{F:List Blk}(h:Prt F c)(hn:nxt F c≠c):dU (nxt F c)<dU c:=by refine ze (kL h.len) h.num (fun i j x hx hy=>?_) hn;have hi:=(zq11.mp hx).1;have hj:=(zq11.mp hy).1;rw [kL h.len,h.len] at hi hj;obtain ⟨o,ho,zo⟩:=f9 h.len (zq6 hi);obtain ⟨p,hp,zp⟩:=f9 h.len (zq6 hj);rw [zo] at hx;rw [zp] at hy;have e:mk1 c F[i] o=mk1 c F[j] p:=(Option.some.inj hx).trans (Option.some.inj hy).symm;rw [ho,hp,(mU e).1]
theorem HP{F:List Blk}(h:Prt F c)(hs:nxt F c=c){i j:Nat}{a b:Blk}(ha:F[i]?=some a)(hb:F[j]?=some b)(e:c[i]?=c[j]?):a.ed.tg.map (fun i=>c.getD i 0)=b.ed.tg.map fun i=>c.getD i 0:=by obtain ⟨o,ho,zo⟩:=f9 h.len ha;obtain ⟨p,hp,zp⟩:=f9 h.len hb;rw [<- hs] at e;exact (mU ((dg zo zp).mp e)).2
end GY
namespace GZ
open PySem PySem.W L2 FB FZ GX GY
variable {cs:List Nat}
def rcl(cs:List Nat)(ws:List Bool)(m:Nat):List Nat:=((List.range m).filter fun i=>ws.getD i false).map fun i=>cs.getD i 0
theorem cH{ws:List Bool}{m:Nat}:rcl cs ws (m+1)=if ws.getD m false then rcl cs ws m++[cs.getD m 0] else rcl cs ws m:=by
 unfold rcl;rw [qK,vF,cg]
 cases h:ws.getD m false
 ·rw [List.filter_cons,h,zq0 Jkm,vI,xu,ix,zq0 Jkm]
 ·rw [List.filter_cons,h,zq1 rfl,vI,ce,xu,zq1 rfl]
theorem mem_rcl{ws:List Bool}{m c:Nat}:c∈rcl cs ws m↔∃i,i<m/\ws.getD i false=true/\cs.getD i 0=c:=by
 unfold rcl;rw [zq36]
 constructor
 ·rintro ⟨i,hi,e⟩;rw [zq61,zq40] at hi;exact zAC i hi.1 hi.2 e
 ·rintro ⟨i,h1,h2,e⟩;exact zn i (by rw [zq61,zq40];exact ⟨h1,h2⟩) e
def plc(cs:List Nat)(ws:List Bool)(ks:List Nat)(i:Nat):Option Nat:=if ws.getD i false then some (ks.idxOf (cs.getD i 0)) else none
def pls(cs:List Nat)(ws:List Bool)(m:Nat):List (Option Nat):=(List.range m).map (plc cs ws (ksF (rcl cs ws m)))
structure Kpt(cs:List Nat)(ws:List Bool)(m:Nat)(kp:List Nat):Prop where
 len:kp.length=(ksF (rcl cs ws m)).length
 at':∀(k i:Nat),kp[k]?=some i->i<m/\ws.getD i false=true/\(ksF (rcl cs ws m))[k]?=some (cs.getD i 0)
theorem CH{ws:List Bool}{ks:List Nat}{c i:Nat}(h:ws.getD i false=true->cs.getD i 0∈ks):plc cs ws (ks++[c]) i=plc cs ws ks i:=by
 unfold plc
 split
 ·rename_i hw
  rw [qR,zq1 (h hw)]
 ·rfl
theorem CI{ws:List Bool}{m:Nat}(h:ws.getD m false=false):pls cs ws (m+1)=pls cs ws m++[none]:=by unfold pls;rw [cH,zq0 (by rw [h];decide),qK,cg];congr 1;show [plc cs ws _ m]=_;unfold plc;rw [zq0 (by rw [h];decide)]
theorem Gb{ws:List Bool}{m:Nat}(h:ws.getD m false=true):pls cs ws (m+1)=pls cs ws m++[some ((ksF (rcl cs ws (m+1))).idxOf (cs.getD m 0))]:=by
 unfold pls;rw [qK,cg];congr 1
 ·refine tF fun i hi=>?_;rw [cH,zq1 h,cr]
  split
  ·rfl
  ·exact CH fun hw=>mem_ksF.mpr (mem_rcl.mpr (zAC i (zq40.mp hi) hw rfl))
 ·show [plc cs ws _ m]=_;unfold plc;rw [zq1 h]
theorem K1{ws:List Bool}:Kpt cs ws 0 []:=⟨by simp [rcl,ksF],fun k i h=>by simp at h⟩
theorem C9{ws:List Bool}{m:Nat}{kp:List Nat}(h:Kpt cs ws m kp)(hw:ws.getD m false=false):Kpt cs ws (m+1) kp:=by
 have e:rcl cs ws (m+1)=rcl cs ws m:=by rw [cH,zq0 (by rw [hw];decide)]
 exact ⟨by rw [e];exact h.len,fun k i hk=>by obtain ⟨h1,h2,h3⟩:=h.at' k i hk;exact zAB Jlk h2 (by rw [e];exact h3)⟩
theorem C8{ws:List Bool}{m:Nat}{kp:List Nat}(h:Kpt cs ws m kp)(hw:ws.getD m false=true)(hc:cs.getD m 0∈ksF (rcl cs ws m)):ksF (rcl cs ws (m+1))=ksF (rcl cs ws m)/\Kpt cs ws (m+1) kp:=by
 have e:ksF (rcl cs ws (m+1))=ksF (rcl cs ws m):=by rw [cH,zq1 hw,cr,zq1 hc]
 exact ⟨e,by rw [e];exact h.len,fun k i hk=>by obtain ⟨h1,h2,h3⟩:=h.at' k i hk;exact zAB Jlk h2 (by rw [e];exact h3)⟩
theorem C7{ws:List Bool}{m:Nat}{kp:List Nat}(h:Kpt cs ws m kp)(hw:ws.getD m false=true)(hc:¬cs.getD m 0∈ksF (rcl cs ws m)):ksF (rcl cs ws (m+1))=ksF (rcl cs ws m)++[cs.getD m 0]/\Kpt cs ws (m+1) (kp++[m]):=by
 have e:ksF (rcl cs ws (m+1))=ksF (rcl cs ws m)++[cs.getD m 0]:=by rw [cH,zq1 hw,cr,zq0 hc]
 refine ⟨e,by rw [e,zq7,zq7,h.len];rfl,fun k i hk=>?_⟩;rw [e]
 by_cases hlt:k<kp.length
 ·rw [jp hlt] at hk;obtain ⟨h1,h2,h3⟩:=h.at' k i hk;exact zAB Jlk h2 (by rw [jp (by rw [<- h.len];exact hlt)];exact h3)
 ·rw [iy Jlk] at hk;have hk0:k-kp.length=0:=by have:=(zq11.mp hk).1;simp at this;omega
  rw [hk0] at hk;have him:m=i:=by simpa using hk
  subst him;refine zAB Jlk hw ?_;rw [iy (by rw [<- h.len];omega),<- h.len,hk0];rfl
def mT(pl:List (Option Nat)):Ed->Ed
 | .stop=>.stop
 | .go i=>.go ((pl.getD i none).getD 0)
 | .choose n i j=>.choose n ((pl.getD i none).getD 0) ((pl.getD j none).getD 0)
theorem Cb{pl:List (Option Nat)}{e:Ed}:(mT pl e).tg=e.tg.map fun i=>(pl.getD i none).getD 0:=by cases e<;>rfl
theorem wB{pl:List (Option Nat)}{e:Ed}:cG (mT pl e)=cG e:=by cases e<;>rfl
def few(F:List Blk)(pl:List (Option Nat))(kp:List Nat):List Blk:=kp.map fun i=>let b:=F.getD i ⟨[],.stop⟩;⟨b.ds,mT pl b.ed⟩
structure Few(F:List Blk)(R:Nat->Prop)(cs:List Nat)(pl:List (Option Nat))(N:List Blk):Prop where
 len:pl.length=F.length
 out:∀i,i<F.length->(pl[i]?=some none↔¬R i)
 to:∀(i:Nat)(b:Blk),R i->F[i]?=some b->∃k c,pl[i]?=some (some k)/\N[k]?=some c/\c.ds=b.ds/\cG c.ed=cG b.ed/\c.ed.tg=b.ed.tg.map fun j=>(pl.getD j none).getD 0
 eqv:∀i j,i<F.length->j<F.length->R i->R j->(pl[i]?=pl[j]?↔cs[i]?=cs[j]?)
 onto:∀k,k<N.length->∃i,i<F.length/\R i/\pl[i]?=some (some k)
 fst:∀(i k:Nat),pl[i]?=some (some k)->∀x,x<k->∃j,j<i/\R j/\pl[j]?=some (some x)
theorem nv{cs:List Nat}{ws:List Bool}{i:Nat}:∀m,i<=m->ksF (rcl cs ws i) <+: ksF (rcl cs ws m)
 |0,h=>by
  obtain rfl:i=0:=by omega
  exact vJ _
 |m+1,h=>by
  by_cases e:i=m+1
  ·rw [e];exact vJ _
  ·refine (nv m Jlk).trans ?_;rw [cH]
   split
   ·rw [cr]
    split
    ·exact vJ _
    ·exact List.prefix_append _ _
   ·exact vJ _
theorem zw{α:Type}{a b:List α}{i:Nat}{x:α}(h:a <+: b)(e:a[i]?=some x):b[i]?=some x:=by obtain ⟨c,rfl⟩:=h;rw [jp (zq11.mp e).1];exact e
theorem C2{F:List Blk}{R:Nat->Prop}{cs:List Nat}{ws:List Bool}{kp:List Nat}(hP:Prt F cs)(hs:nxt F cs=cs)(hL:Led F)(hw:ws.length=F.length)(hR:∀i,ws[i]?=some true↔R i)(hcl:∀(i:Nat)(b:Blk),R i->F[i]?=some b->∀j∈b.ed.tg,R j)(hk:Kpt cs ws F.length kp):
  Few F R cs (pls cs ws F.length) (few F (pls cs ws F.length) kp):=by
 have gw:∀i,i<F.length->(ws.getD i false=true↔R i):=fun i hi=>by rw [cw,<- hR i,zq6 Jlk];simp
 have pat:∀i,i<F.length->(pls cs ws F.length)[i]?=some (plc cs ws (ksF (rcl cs ws F.length)) i):=fun i hi=>by unfold pls;rw [bE,qT hi];rfl
 have mem:∀i,i<F.length->R i->cs.getD i 0∈ksF (rcl cs ws F.length):=fun i hi r=>mem_ksF.mpr (mem_rcl.mpr (zAC i hi ((gw i hi).mpr r) rfl));have pin:∀i,i<F.length->R i->plc cs ws (ksF (rcl cs ws F.length)) i=some ((ksF (rcl cs ws F.length)).idxOf (cs.getD i 0)):=fun i hi r=>by unfold plc;rw [zq1 ((gw i hi).mpr r)]
 have cat:∀i,i<F.length->cs[i]?=some (cs.getD i 0):=fun i hi=>by rw [cw,zq6 (by rw [hP.len];exact hi)];rfl
 have eqv:∀i j,i<F.length->j<F.length->R i->R j->((pls cs ws F.length)[i]?=(pls cs ws F.length)[j]?↔cs[i]?=cs[j]?):=fun i j hi hj ri rj=>by
  rw [pat i hi,pat j hj,pin i hi ri,pin j hj rj,cat i hi,cat j hj]
  constructor
  ·intro e;rw [uk (mem i hi ri) (Option.some.inj (Option.some.inj e))]
  ·intro e;rw [Option.some.inj e]
 refine ⟨by unfold pls;rw [zq3,eg],fun i hi=>?_,fun i b ri hb=>?_,eqv,fun k hkl=>?_,fun i k hik x hx=>?_⟩
 ·rw [pat i hi]
  constructor
  ·intro e r;rw [pin i hi r] at e
   cases e
  ·intro nr;unfold plc;rw [zq0 (fun z=>nr ((gw i hi).mp z))]
 ·have hi:=(zq11.mp hb).1;have hm:=mem i hi ri;have hlt:=qQ hm;obtain ⟨j,hj⟩:∃j,kp[(ksF (rcl cs ws F.length)).idxOf (cs.getD i 0)]?=some j:=⟨_,zq6 (by rw [hk.len];exact hlt)⟩
  obtain ⟨hjF,hjw,hjc⟩:=hk.at' _ j hj;have rj:=(gw j hjF).mp hjw;have ecc:cs.getD j 0=cs.getD i 0:=by rw [zq6 hlt,xB hlt] at hjc;exact (Option.some.inj hjc).symm
  have ecs:cs[j]?=cs[i]?:=by rw [cat j hjF,cat i hi,ecc]
  have hFj:F[j]?=some F[j]:=zq6 hjF;obtain ⟨m1,m2⟩:=mk0_iff.mp (hP.look j i _ _ hFj hb ecs);have st:=HP hP hs hFj hb ecs;refine zAR _ ⟨F[j].ds,mT (pls cs ws F.length) F[j].ed⟩ (by rw [pat i hi,pin i hi ri]) ?_ m1 (by rw [wB];exact m2) ?_
  ·unfold few;rw [bE,hj,tE,cw,hFj];rfl
  ·rw [Cb];have hl:=uv m2;apply qM;intro x
   by_cases hx:x<F[j].ed.tg.length
   ·have e1:F[j].ed.tg[x]?=some F[j].ed.tg[x]:=zq6 hx;have e2:b.ed.tg[x]?=some (b.ed.tg[x]' Jlk):=zq6 Jlk;rw [bE,bE,e1,e2];have l1:=hL _ (bD hFj) _ (bD e1);have l2:=hL _ (bD hb) _ (bD e2);have r1:=hcl j _ rj hFj _ (bD e1);have r2:=hcl i _ ri hb _ (bD e2);have st2:=congrArg (fun l:List Nat=>l[x]?) st;have z:cs[F[j].ed.tg[x]]?=cs[b.ed.tg[x]' Jlk]?:=by have st3:(F[j].ed.tg.map fun i=>cs.getD i 0)[x]?=(b.ed.tg.map fun i=>cs.getD i 0)[x]?:=st2;rw [bE,bE,e1,e2] at st3;rw [cat _ l1,cat _ l2];exact st3
    have z2:=(eqv _ _ l1 l2 r1 r2).mpr z;show some (((pls cs ws F.length).getD F[j].ed.tg[x] none).getD 0)=some (((pls cs ws F.length).getD (b.ed.tg[x]' Jlk) none).getD 0);rw [cw,cw,z2]
   ·rw [kX (by rw [zq3];omega),kX (by rw [zq3];omega)]
 ·unfold few at hkl;rw [zq3] at hkl;obtain ⟨i,hi⟩:∃i,kp[k]?=some i:=⟨_,zq6 hkl⟩
  obtain ⟨h1,h2,h3⟩:=hk.at' k i hi;refine zAC i h1 ((gw i h1).mp h2) ?_;rw [pat i h1,pin i h1 ((gw i h1).mp h2)];have hlt:k<(ksF (rcl cs ws F.length)).length:=(zq11.mp h3).1;have e3:(ksF (rcl cs ws F.length))[k]=cs.getD i 0:=(zq11.mp h3).2;have hm:=mem i h1 ((gw i h1).mp h2);have hj:=qQ hm;have e4:(ksF (rcl cs ws F.length))[(ksF (rcl cs ws F.length)).idxOf (cs.getD i 0)]?=some (cs.getD i 0):=by rw [zq6 hj,xB hj]
  rw [(Bf hj (fR (rcl cs ws F.length)).2.1).mp (e4.trans h3.symm)]
 ·have hi:i<F.length:=by have:=(zq11.mp hik).1;unfold pls at this;rw [zq3,eg] at this;exact this
  have hw:ws.getD i false=true:=by
   rw [pat i hi] at hik;unfold plc at hik
   split at hik
   ·assumption
   ·cases hik
  have ri:=(gw i hi).mp hw;rw [pat i hi,pin i hi ri] at hik;have ek:(ksF (rcl cs ws F.length)).idxOf (cs.getD i 0)=k:=Option.some.inj (Option.some.inj hik);have p1:=nv (cs:=cs) (ws:=ws) (i:=i) (i+1) Jlk;have p2:=nv (cs:=cs) (ws:=ws) (i:=i+1) F.length Jlk;have nd:=(fR (rcl cs ws F.length)).2.1;have hm:=mem i hi ri;have hkl:=qQ hm;have ei:(ksF (rcl cs ws F.length))[k]?=some (cs.getD i 0):=by rw [<- ek,zq6 hkl,xB hkl]
  have hle:k<=(ksF (rcl cs ws i)).length:=by
   have hc:cs.getD i 0∈ksF (rcl cs ws (i+1)):=mem_ksF.mpr (mem_rcl.mpr (zAC i Jlk hw rfl));obtain ⟨y,hy⟩:=zq76.mp hc;have hy2:=zw p2 hy;have eyk:k=y:=(Bf (zq11.mp ei).1 nd).mp (ei.trans hy2.symm);have hyl:=(zq11.mp hy).1;rw [cH,zq1 hw,cr] at hyl
   split at hyl
   ·omega
   ·rw [zq7,bV] at hyl;omega
  have hxi:x<(ksF (rcl cs ws i)).length:=by omega
  have ex:(ksF (rcl cs ws i))[x]?=some (ksF (rcl cs ws i))[x]:=zq6 hxi;obtain ⟨j,hj,hjw,hjc⟩:=mem_rcl.mp (mem_ksF.mp (iz hxi));have hjF:j<F.length:=by omega
  have rj:=(gw j hjF).mp hjw;refine zAC j hj rj ?_;rw [pat j hjF,pin j hjF rj];have e5:=zw (p1.trans p2) ex;have hmj:=mem j hjF rj;have hjl:=qQ hmj;have e6:(ksF (rcl cs ws F.length))[(ksF (rcl cs ws F.length)).idxOf (cs.getD j 0)]?=some (cs.getD j 0):=by rw [zq6 hjl,xB hjl]
  rw [hjc] at e6 ⊢;rw [(Bf (zq11.mp e6).1 nd).mp (e6.trans e5.symm)]
end GZ
namespace FP
open PySem L2 FB FS FA PyProof.Rows
def cA(names:List Str)(w:Int)(most:Int)(k:Nat)(c:Int)(st:List Ent×Int):List Ent×Int:=
 if cY c k % 12<2/\1<st.1.length then
  (match st.1 with
   |e::es=>if cY c k % 12=0/\e.kind=.iff then ⟨.els,[],e.name,e.rows⟩::es else eP st.1
   | []=>[],st.2)
 else if st.2<most then
  (if cY c k % 12<5/\st.1.length<8/\¬names=[] then ⟨kd3 (cY c k % 12-2),[],jl (cY c k / 12) names,[]⟩::st.1 else lO (.deed (eQ (cY c k / 12) names w)) st.1,st.2+1)
 else st
def bH(names:List Str)(w most:Int):List Int->Nat->List Ent×Int->List Ent×Int
 | [],_,st=>st
 |c::cs,k,st=>bH names w most cs (k+1) (cA names w most k c st)
theorem kr{names:List Str}{w most:Int}{c:Int}:∀{cs:List Int} {k:Nat} {st:List Ent×Int},bH names w most (cs++[c]) k st=cA names w most (k+cs.length) c (bH names w most cs k st)
 | [],k,st=>rfl
 |d::cs,k,st=>by show bH names w most (cs++[c]) (k+1) _=_;rw [kr,cW,show k+1+cs.length=k+(cs.length+1) by omega];rfl
def dW(cs:List Int)(names:List Str)(w most:Int):List Stm:=bZ (bH names w most cs 0 start0).1
theorem qo{ns:List Str}{w most:Int}{k:Nat}{c:Int}{st:List Ent×Int}(g:EsG ns w st.1)(l1:1<=st.1.length)(l9:st.1.length<=9)(hc:(gQ st.1:Int)<=st.2)(hm:st.2<=most):
  EsG ns w (cA ns w most k c st).1/\1<=(cA ns w most k c st).1.length/\(cA ns w most k c st).1.length<=9/\(gQ (cA ns w most k c st).1:Int)<=(cA ns w most k c st).2/\(cA ns w most k c st).2<=most:=by
 obtain ⟨es,many⟩:=st;dsimp only at g l1 l9 hc hm;unfold cA;dsimp only
 split
 ·next h=>
  match es,h.2,g,l9,hc with
  |e::e2::es',_,g,l9,hc=>
   dsimp only
   split
   ·next hk=>
    refine zAI ⟨⟨?_,g.1.d1,trivial,g.1.g1,g.1.nm⟩,g.2⟩ Jll (by simpa using l9) ?_ hm
    ·have:=g.1.d1;simp only [bF];omega
    ·simp only [gQ,kO,aS,List.length_cons] at hc ⊢;omega
   ·obtain ⟨h1,h2⟩:=gP g;refine zAI h1 (by rw [bO];omega) (by rw [bO];simp at l9;omega) Jlk hm
 ·split
  ·next h2=>
   dsimp only
   split
   ·next h3=>refine zAI ⟨⟨by simp only [bF];omega,by simp only [bF];omega,trivial,trivial,fun _=>i4 h3.2.2⟩,g⟩ Jll (by simp;omega) ?_ Jlk;simp only [gQ,kO,aS,List.length_cons] at hc ⊢;omega
   ·match es,l1,g,l9,hc with
    |e::es',_,g,l9,hc=>refine zAI ⟨nX g.1 oJ (by simp only [Stm.deep];simp at l9;omega),g.2⟩ (by simp [lO]) (by simpa [lO] using l9) ?_ Jlk;simp only [gQ,kO,lO,Ent.add,eY,aS,Stm.many,List.length_cons] at hc ⊢;omega
  ·exact zAI g l1 l9 hc hm
theorem kq{ns:List Str}{w most:Int}:∀{cs:List Int} {k:Nat} {st:List Ent×Int},EsG ns w st.1->1<=st.1.length->st.1.length<=9->(gQ st.1:Int)<=st.2->st.2<=most->
  EsG ns w (bH ns w most cs k st).1/\(gQ (bH ns w most cs k st).1:Int)<=most
 | [],_,_,g,_,_,hc,hm=>⟨g,by show (gQ _:Int)<=_;exact Int.le_trans hc hm⟩
 |c::cs,k,st,g,l1,l9,hc,hm=>by obtain ⟨a1,a2,a3,a4,a5⟩:=qo (k:=k) (c:=c) g l1 l9 hc hm;show EsG ns w (bH ns w most cs (k+1) (cA ns w most k c st)).1/\(gQ (bH ns w most cs (k+1) (cA ns w most k c st)).1:Int)<=most;exact kq a1 a2 a3 a4 a5
theorem jc{cs:List Int}{ns:List Str}{w most:Int}(h:0<=most):cX ns w (dW cs ns w most)/\bF (dW cs ns w most)<=8/\(aS (dW cs ns w most):Int)<=most:=by
 have z:EsG ns w start0.1:=⟨⟨by simp [start0,bF],by simp [start0,bF],trivial,trivial,fun z=>absurd rfl z⟩,trivial⟩
 obtain ⟨g,hc⟩:=kq (cs:=cs) (k:=0) (most:=most) z (by simp [start0]) (by simp [start0]) (by simp [start0,gQ,kO,aS]) (by simpa [start0] using h);obtain ⟨h1,h2,h3⟩:=gr g;exact zAB h1 h2 (by unfold dW;omega)
end FP
namespace FZ
open PySem FB FS
def wt(b:Blk):Nat:=match b.ds,b.ed with
 | [],_=>1
 |d::ds,.choose _ _ _=>(d::ds).length+1
 |ds,_=>ds.length
def pw(b:Blk):Nat:=match b.ds,b.ed with
 | [],.go _=>0
 |_,_=>wt b
def sW(B:List Blk):Nat:=(B.map wt).sum
theorem jv{B:List Blk}{b:Blk}:sW (B++[b])=sW B+wt b:=by unfold sW;rw [cg,Bg];simp
theorem eM(b:Blk)(B:List Blk):sW (aF b B).2=sW B+pw b:=by
 obtain ⟨ds,ed⟩:=b;unfold aF pw
 cases ds with
 |nil=>
  cases ed with
  |stop=>exact jv
  |go i=>rfl
  |choose n i j=>exact jv
 |cons d r=>exact jv
theorem A7{B:List Blk}:∀{i:Nat} {b c:Blk},B[i]?=some c->sW (B.set i b)+wt c=sW B+wt b:=by
 induction B with
 |nil=>intro i b c h;simp at h
 |cons x B ih=>
  intro i b c h
  cases i with
  |zero=>
   simp at h;subst h;unfold sW;simp only [List.set_cons_zero,List.map_cons,List.sum_cons];omega
  |succ i=>have z:=ih (i:=i) (b:=b) (c:=c) (by simpa using h);unfold sW at z ⊢;simp only [List.set_cons_succ,List.map_cons,List.sum_cons];omega
theorem JI(b:Blk):wt b<=pw b+1:=by
 obtain ⟨ds,ed⟩:=b;unfold pw
 cases ds<;>cases ed<;>simp [wt]
theorem CL(d:Deed)(ds:List Deed)(ed:Ed):pw ⟨d::ds,ed⟩<=pw ⟨ds,ed⟩+1:=by
 unfold pw
 cases ds<;>cases ed<;>simp [wt]
mutual
theorem AL:∀(s:Stm)(b:Blk)(B:List Blk),sW (bW s b B).2+pw (bW s b B).1<=sW B+pw b+s.many
 | .deed d,b,B=>by
  rw [bW,Stm.many]
  split
  ·have:=eM b B;show sW (aF b B).2+pw ⟨[d],.go (aF b B).1⟩<=_;have h1:pw ⟨[d],.go (aF b B).1⟩=1:=by simp [pw,wt]
   omega
  ·have h0:pw ⟨d::b.ds,b.ed⟩<=pw b+1:=CL d b.ds b.ed;show sW B+pw ⟨d::b.ds,b.ed⟩<=_;omega
 | .ifs n x y,b,B=>by
  rw [bW,Stm.many];have h1:=eM b B;have h2:=fA x ⟨[],.go (aF b B).1⟩ (aF b B).2;have h3:=eM (aK x ⟨[],.go (aF b B).1⟩ (aF b B).2).1 (aK x ⟨[],.go (aF b B).1⟩ (aF b B).2).2;have h4:=fA y ⟨[],.go (aF b B).1⟩ (aF (aK x ⟨[],.go (aF b B).1⟩ (aF b B).2).1 (aK x ⟨[],.go (aF b B).1⟩ (aF b B).2).2).2;have h5:=eM (aK y ⟨[],.go (aF b B).1⟩ (aF (aK x ⟨[],.go (aF b B).1⟩ (aF b B).2).1 (aK x ⟨[],.go (aF b B).1⟩ (aF b B).2).2).2).1 (aK y ⟨[],.go (aF b B).1⟩ (aF (aK x ⟨[],.go (aF b B).1⟩ (aF b B).2).1 (aK x ⟨[],.go (aF b B).1⟩ (aF b B).2).2).2).2;have hg:pw ⟨[],.go (aF b B).1⟩=0:=rfl;have hc:∀i j,pw ⟨[],.choose n i j⟩=1:=fun i j=>by simp [pw,wt]
  dsimp only;rw [hc];omega
 | .whl n a,b,B=>by
  rw [bW,Stm.many];have h1:=eM b B;have h2:=fA a ⟨[],.go (aF b B).2.length⟩ ((aF b B).2++[⟨[],.stop⟩]);have h3:=eM (aK a ⟨[],.go (aF b B).2.length⟩ ((aF b B).2++[⟨[],.stop⟩])).1 (aK a ⟨[],.go (aF b B).2.length⟩ ((aF b B).2++[⟨[],.stop⟩])).2;have h4:sW ((aF b B).2++[⟨[],.stop⟩])=sW (aF b B).2+1:=by rw [jv];rfl
  have hg:∀i,pw ⟨[],.go i⟩=0:=fun i=>rfl;have e1:=(bN a ⟨[],.go (aF b B).2.length⟩ ((aF b B).2++[⟨[],.stop⟩])).2 (aF b B).2.length (by rw [zq7];simp);have l1:=(bN a ⟨[],.go (aF b B).2.length⟩ ((aF b B).2++[⟨[],.stop⟩])).1;rw [zq7,bV] at l1;have e2:=(cZ (aK a ⟨[],.go (aF b B).2.length⟩ ((aF b B).2++[⟨[],.stop⟩])).1 (aK a ⟨[],.go (aF b B).2.length⟩ ((aF b B).2++[⟨[],.stop⟩])).2).2 (aF b B).2.length Jlk;have e3:((aF b B).2++[(⟨[],.stop⟩:Blk)])[(aF b B).2.length]?=some ⟨[],.stop⟩:=by rw [iy (zq5 _),rg];rfl
  have h5:=A7 (b:=⟨[],.choose n (aF (aK a ⟨[],.go (aF b B).2.length⟩ ((aF b B).2++[⟨[],.stop⟩])).1 (aK a ⟨[],.go (aF b B).2.length⟩ ((aF b B).2++[⟨[],.stop⟩])).2).1 (aF b B).1⟩) (e2.trans (e1.trans e3));have w1:wt ⟨[],.stop⟩=1:=rfl;have w2:∀i j,wt ⟨[],.choose n i j⟩=1:=fun _ _=>rfl;rw [w1,w2] at h5;rw [hg] at h2;dsimp only;rw [hg];omega
theorem fA:∀(l:List Stm)(b:Blk)(B:List Blk),sW (aK l b B).2+pw (aK l b B).1<=sW B+pw b+aS l
 | [],b,B=>by rw [aK,aS];exact zq5 _
 |s::r,b,B=>by have h1:=fA r b B;have h2:=AL s (aK r b B).1 (aK r b B).2;rw [aK,aS];omega
end
theorem vP(ss:List Stm):sW (b7 ss)<=aS ss+2:=by have h1:=fA ss ⟨[],.stop⟩ [⟨[],.stop⟩];have e1:=(bN ss ⟨[],.stop⟩ [⟨[],.stop⟩]).2 0 Jll;have h2:=A7 (b:=(aK ss ⟨[],.stop⟩ [⟨[],.stop⟩]).1) (e1.trans (show ([⟨[],.stop⟩]:List Blk)[0]?=some ⟨[],.stop⟩ from rfl));have h3:=JI (aK ss ⟨[],.stop⟩ [⟨[],.stop⟩]).1;have w1:wt ⟨[],.stop⟩=1:=rfl;have w2:sW [⟨[],.stop⟩]=1:=rfl;have w3:pw ⟨[],.stop⟩=1:=rfl;unfold b7;omega
end FZ
namespace L2
open PySem PySem.Spec PyProof.Rows
def Gg(K:W.Frag):R2:=fun x y H Q=>∃(a b ta ba tb bb:Addr)(o:Bool)(xs:List Int)(ka:List (Key×V)),x=.ref a/\y=.ref b/\SqT K H a [.ref ta,.ref ba,.bl o]/\SqT K H b [.ref tb,.ref bb,.bl o]/\ta≠tb/\ba≠bb/\SqL K H ta (xs.map V.int)/\SqL K H tb (xs.map V.int)/\Rd H ba (.dK ka)/\Rd H bb (.dK ka)/\ka.all (fun kv=>bG kv.2)=true/\w9 ka ka=true/\Q (.bl true) H
theorem sR{prog:Program}{w:World}{A:Around}{E:Value->Shared->Prop}{s:Shared}{p q:Addr}{xs ys:Array Value}{Q:Value->Shared->Prop}(hp:s.heap.IsTuple p xs)(hq:s.heap.IsTuple q ys)(hz:xs.size=ys.size)(hu:A.units<cLine)
  (he:∀z∈xs.toList.zip ys.toList,∀(E':Value->Shared->Prop)(Q':Bool->Shared->Prop),Q' true s->wpAny (model prog w) A.in1 (eqBool z.1 z.2) Q' E' s) (h:Q (.bool true) s) :
  wpAny (model prog w) A (compareOp .Eq (.ref p) (.ref q)) Q E s:=by
 refine wpAny_richCompare_same_room (op:=.Eq) hp.typeIs hq.typeIs F.slot_tuple_eq (wpAny_call_entry F.slot_tuple_eq hp.typeIs F.entry_tuple_eq ?_ (F.args_tuple_eq_2 _ _)) hu;rcases hp with ⟨⟨c1,d1,a1,s1⟩,g1,e1,m1,f1⟩;rcases hq with ⟨⟨c2,d2,a2,s2⟩,g2,e2,m2,f2⟩;dsimp only at e1 f1 e2 f2;subst e1 f1 e2 f2;obtain ⟨hh,gg,dd,tk,os⟩:=s;have ft:=AutoSeq1.sub_tuple_tuple
 wp_walk using AutoSeq1.wpAny_loadPart' g1,AutoSeq1.wpAny_loadPart' g2,wpAny_forIn_list _ (fun dh b s'=>b.1=none/\s'=⟨hh,gg,dd,tk,os⟩/\∀z∈dh,∀(E':Value->Shared->Prop)(Q':Bool->Shared->Prop),Q' true ⟨hh,gg,dd,tk,os⟩->wpAny (model prog w) A.in1 (eqBool z.1 z.2) Q' E' ⟨hh,gg,dd,tk,os⟩) _
 case turn=>
  rintro z dh b s' ⟨hb,rfl,hr⟩;refine zq2 (hr z (cV ..) _ _ ?_)
  wp_walk
  exact zAB rfl rfl fun y hy=>hr y (zq9 _ hy)
 case fin=>
  rintro ⟨b1,b2⟩ s' ⟨hb,rfl,_⟩;dsimp only at hb;subst hb
  wp_walk
  exact zn _ rfl (by simpa [Builtin.Tuple.tupleCompareSizes,bne,hz] using h)
 case h=>exact zAB rfl rfl he
section
variable {X:Cx}
theorem pM(hu:X.A.units+2<cLine):OpR X (compareOp .Eq) (Gg X.K):=by
 intro pins s σ H x y v u Q I rx ry h;obtain ⟨a,b,ta,ba,tb,bb,o,xs,ka,rfl,rfl,ha,hb,n1,n2,l1,l2,d1,d2,fa,ed,q⟩:=h
 cases rx;cases ry
 obtain ⟨its,r,p,_⟩:=I.tuple ha;obtain ⟨its2,r2,p2,_⟩:=I.tuple hb;have e1:=r.length;have e2:=r2.length;have e3:its.toArray.size=3:=by simp [<- e1]
 have e4:its2.toArray.size=3:=by simp [<- e2]
 refine sR (show s.heap.IsTuple a its.toArray from p) (show s.heap.IsTuple b its2.toArray from p2) (e3.trans e4.symm) Jlk (fun z hz E' Q' q'=>?_) (zAA (.bl _) H I rfl q);obtain ⟨j,hj⟩:=zq76.mp hz;rw [EW] at hj;obtain ⟨h1,h2⟩:=hj;rw [List.toList_toArray] at h1 h2;obtain ⟨hj,_⟩:=zq11.mp h1;rw [<- e1] at hj;obtain ⟨u1,hu1,r1⟩:=r.get (zq6 hj);obtain ⟨u2,hu2,r2'⟩:=r2.get (zq6 (show j<[V.ref tb,V.ref bb,V.bl o].length from hj));rw [h1] at hu1;rw [h2] at hu2
 cases hu1;cases hu2
 match j,hj,r1,r2' with
 |0,_,rx,ry=>
  have z:=Dq.lists (K:=X.K) (H:=H) (n:=0) (fun _=>true) n1 l1 l2 rfl fun j x y hx hy=>by
   rw [hx] at hy
   cases hy
   rw [bE] at hx;obtain ⟨i,hi,rfl⟩:=zq42.mp hx;have e:true=eqV (.int i) (.int i):=by simp [eqV]
   rw [e];exact .flat rfl rfl
  rw [xG] at z;exact z.at I (A:=X.A.in1) rx ry (by show X.A.units+1+1<cLine;omega) _ _ _ _ q'
 |1,_,rx,ry=>
  have rx':RelV (.ref ba) z.1:=rx;have ry':RelV (.ref bb) z.2:=ry;obtain ⟨z1,z2⟩:=z;dsimp only at rx' ry' ⊢
  cases rx';cases ry'
  unfold eqBool;refine qV (Be (fun hab=>absurd (by have:=eq_of_beq hab;injection this) n2) fun _=>?_);obtain ⟨za,hda,va,ra,da⟩:=fg I.hok d1;obtain ⟨zb,hdb,vb,rb,db⟩:=fg I.hok d2;refine zq2 (W.keq_eq hda hdb da db (by show X.A.units+1<cLine;omega) (fun _=>mO rb fa ra fa) ?_);rw [<- ra.length,<- rb.length];show wpAny _ _ (truthOfDropped (.bool (w9 ka ka))) _ _ _;rw [ed];exact wpAny_truthy_bool q'
 |2,_,rx,ry=>
  have e:true=eqV (.bl o) (.bl o):=by cases o<;>rfl
  rw [e] at q';exact mJ (A:=X.A.in1) rx ry rfl rfl _ _ _ _ q'
end
end L2
local macro_rules | `(tactic| simp_arith [$ts,*] $l:location)=>`(tactic| simp only [L2.Ku,L2.K8,L2.Kv,L2.K9,L2.Kw,L2.Ka,L2.Kx,L2.Kb,L2.Ky,L2.Kc,L2.Kz,L2.Ke,L2.KA,L2.Kf,L2.KB,L2.Kg,L2.KC,L2.Kh,L2.KD,L2.Ki,L2.JL,L2.Ja,L2.JM,L2.Jb,L2.JN,L2.Jc,L2.JO,L2.Jd,L2.JP,L2.Je,L2.JQ,L2.Jf,L2.JR,L2.Jg,L2.r_c,L2.Km,L2.Kr,L2.Kt,L2.y_I,L2.y_U,L2.J5,L2.J6,L2.Jo,L2.GE,L2.CV,L2.Hm,L2.r_B,L2.IY,L2.Kn,L2.Jq,L2.Gi,L2.Jr,L2.Kj,L2.Hh,L2.zU,L2.Gp,L2.Gu,L2.Jt,L2.DC,L2.J0,L2.K5,L2.Jp,L2.Gn,L2.Gm,L2.Jw,L2.Jn,L2.Ko,L2.Kp,L2.Gr,L2.Gq,L2.Kq,L2.zN,L2.Hi,L2.GF,L2.CW,L2.Ji,L2.Kl,L2.Kk,L2.GQ,L2.GR,L2.GS,L2.GT,L2.GU,L2.GW,L2.Ha,L2.J9,L2.CY,L2.D0,L2.GK,L2.D1,L2.Gv,L2.Gw,L2.Gx,L2.J7,L2.K7,L2.J3,L2.Jk,L2.Jj,L2.DD,L2.J4,L2.Ju,L2.zG,L2.Js,L2.GC,L2.Gy,L2.GP,L2.GH,true_and,and_true,forall_const,Int.reduceLT,L2.CQ,L2.x4,L2.Jx,L2.r_isi_int_str,L2.r_isi_str_str,L2.Jv,L2.Jh,L2.zO,L2.Fc,L2.HZ,L2.Ii,L2.Gj,L2.Gk,List.map_cons,List.map_nil,List.getElem?_cons_zero,List.getElem?_cons_succ,Option.join_some,L2.K6,L2.CT,L2.Gs,L2.Gz,L2.GG,List.set_cons_zero,List.set_cons_succ,L2.zL,L2.Hl,L2.GI,L2.Hg,L2.He,L2.GJ,L2.F7,L2.IZ,L2.CS,L2.zK,L2.CU,L2.wY,L2.CZ,L2.GL,L2.D2,L2.Hd,L2.Hj,L2.Hk,L2.zW,L2.x5,L2.zX,$ts,*] $l:location)
local macro_rules | `(tactic| simp_arith [$ts,*])=>`(tactic| simp_arith [$ts,*] at ⊢)
local macro_rules | `(tactic| rwa [$[$ts:term],*]) => `(tactic| simp_arith [$[$ts:term],*])
local macro_rules | `(∅) => `(by first | exact ⟨rfl,rfl,rfl,Jkk,rfl,Jkk,Jkk⟩ | (intro vs H Q E h; first | (obtain ⟨h,_⟩ := h; cases h; rfl) | (obtain ⟨_,h,_⟩ := h; cases h; rfl) | (obtain ⟨_,_,h,_⟩ := h; cases h; rfl) | (obtain ⟨_,_,_,h,_⟩ := h; cases h; rfl) | (obtain ⟨_,_,_,_,h,_⟩ := h; cases h; rfl) | (obtain ⟨_,_,_,_,_,h,_⟩ := h; cases h; rfl) | (obtain ⟨_,_,_,_,_,_,h,_⟩ := h; cases h; rfl) | (obtain ⟨_,_,_,_,_,_,_,h,_⟩ := h; cases h; rfl)))
namespace K81
open PySem L2 PyProof.Rows FA FB FS FP FG FO FR
def top(i:Nat):Stmt:=PySem.Challenge.pw_deedloom_k81_whole_fewer_states_run_alik.main.body.getD i (.Pass ⟨0,0,0,0⟩)
abbrev DI:Stmt:=top 1
theorem Hq:aE ["ending"] ["ending"] (ax DI):=∅
abbrev DJ:Stmt:=top 2
theorem Hr:aE ["ending","boxes"] ["ending","boxes"] (ax DJ):=∅
abbrev DK:Stmt:=top 3
theorem A8:aE ["ending","places"] ["ending","places"] (ax DK):=∅
abbrev DL:Stmt:=top 5
theorem sc_103:aE ["table","classes","ways","numbers","places","kept","old"] ["table"] (ax DL):=∅
abbrev DM:Stmt:=top 6
theorem sc_104:aE ["table","classes","finer"] ["table"] (ax DM):=∅
abbrev DN:Stmt:=top 7
theorem Hs:aE ["ending"] ["ending"] (ax DN):=∅
abbrev DO:Stmt:=top 8
theorem sc_106:aE ["table","classes","marks","state","own"] ["table","classes"] (ax DO):=∅
abbrev DP:Stmt:=top 9
theorem sc_107:aE ["marks","numbers","mark"] ["marks"] (ax DP):=∅
abbrev DQ:Stmt:=top 10
theorem sc_108:aE ["table","ways","ahead","place"] ["table"] (ax DQ):=∅
abbrev DR:Stmt:=bX (top 12) 0
theorem Ht:aE ["self","width","ins","boxes","rows"] ["self","width","ins","boxes","rows"] (ax DR):=∅
abbrev DS:Stmt:=top 13
theorem Hu:aE ["rows"] ["rows"] (ax DS):=∅
abbrev DT:Stmt:=top 14
theorem Hv:aE ["row"] ["row"] (ax DT):=∅
abbrev DU:Stmt:=top 15
theorem sc_112:aE ["width","many","bit"] ["width"] (ax DU):=∅
abbrev DV:Stmt:=top 16
theorem Hw:aE ["op","x","y","width"] ["op","x","y","width"] (ax DV):=∅
abbrev DW:Stmt:=top 19
theorem sc_114:aE ["program","parting","first"] ["program"] (ax DW):=∅
abbrev DX:Stmt:=bX (top 20) 0
theorem Hx:aE ["self"] ["self"] (ax DX):=∅
abbrev DY:Stmt:=bX (top 20) 1
theorem Hy:aE ["self"] ["self"] (ax DY):=∅
abbrev DZ:Stmt:=bX (top 20) 2
theorem Hz:aE ["self","block"] ["self","block"] (ax DZ):=∅
abbrev E1:Stmt:=bX (top 20) 3
theorem HA:aE ["self","block"] ["self","block"] (ax E1):=∅
abbrev E2:Stmt:=bX (top 20) 4
theorem sc_119:aE ["self","rows","block","row"] ["self","rows","block"] (ax E2):=∅
abbrev E3:Stmt:=bX (top 20) 5
theorem HB:aE ["self","row","block"] ["self","row","block"] (ax E3):=∅
abbrev E4:Stmt:=bX (top 20) 6
theorem sc_121:aE ["self","row","block","behind","ones","others"] ["self","row","block"] (ax E4):=∅
abbrev E5:Stmt:=bX (top 20) 7
theorem sc_122:aE ["self","row","block","behind","look","inner"] ["self","row","block"] (ax E5):=∅
abbrev E6:Stmt:=top 23
theorem HC:aE ["deed"] ["deed"] (ax E6):=∅
abbrev E7:Stmt:=top 24
theorem HD:aE ["deed"] ["deed"] (ax E7):=∅
abbrev E8:Stmt:=top 25
theorem HE:aE ["deed"] ["deed"] (ax E8):=∅
abbrev E9:Stmt:=top 26
theorem HF:aE ["deed"] ["deed"] (ax E9):=∅
abbrev Ea:Stmt:=top 27
theorem HG:aE ["operand","boxes"] ["operand","boxes"] (ax Ea):=∅
abbrev Eb:Stmt:=top 28
theorem sc_128:aE ["deed","boxes","width","parts"] ["deed","boxes","width"] (ax Eb):=∅
abbrev Ec:Stmt:=top 30
theorem sc_129:aE ["deeds","j","k","earlier","later","name"] ["deeds","j","k"] (ax Ec):=∅
abbrev Ee:Stmt:=top 31
theorem sc_130:aE ["deeds","units","layer","everything","ways","longer","done","beats","beat"] ["deeds","units"] (ax Ee):=∅
abbrev Ef:Stmt:=bX (top 32) 0
theorem HH:aE ["self","deeds","units"] ["self","deeds","units"] (ax Ef):=∅
abbrev Eg:Stmt:=bX (top 32) 1
theorem sc_132:aE ["self","done","place","missing","beats"] ["self","done"] (ax Eg):=∅
abbrev Eh:Stmt:=bX (top 32) 2
theorem sc_133:aE ["self","done","beats","place","more","beat","taken"] ["self","done","beats","place"] (ax Eh):=∅
abbrev Ei:Stmt:=bX (top 32) 3
theorem HI:aE ["self","done","beat","missing"] ["self","done","beat","missing"] (ax Ei):=∅
abbrev Ej:Stmt:=bX (top 32) 4
theorem sc_135:aE ["self","done","beat","place","sort","earlier","lean","ahead"] ["self","done","beat","place"] (ax Ej):=∅
abbrev Ek:Stmt:=top 34
theorem sc_136:aE ["program","words","boxes","name"] ["program","words"] (ax Ek):=∅
abbrev El:Stmt:=top 36
theorem sc_137:aE ["program","units","blocks","block","laid_blocks","firsts","many","beats","table","deeds"] ["program","units"] (ax El):=∅
abbrev Em:Stmt:=top 37
theorem sc_138:aE ["block","units","deeds","ending","beats"] ["block","units"] (ax Em):=∅
abbrev En:Stmt:=top 38
theorem HJ:aE ["deeds","name"] ["deeds","name"] (ax En):=∅
abbrev Eo:Stmt:=bX (top 39) 0
theorem HK:aE ["self","program","table","words"] ["self","program","table","words"] (ax Eo):=∅
abbrev Ep:Stmt:=bX (top 39) 1
theorem sc_141:aE ["self","state","after","deed","word","name"] ["self"] (ax Ep):=∅
abbrev Er:Stmt:=top 40
theorem sc_142:aE ["program","table","words","most","going","beats"] ["program","table","words","most"] (ax Er):=∅
abbrev Es:Stmt:=top 42
theorem sc_143:aE ["_law_cell","_law_k","_law_number"] ["_law_cell","_law_k"] (ax Es):=∅
abbrev Et:Stmt:=top 43
theorem sc_144:aE ["_law_cell","_law_letters","_law_mixed_here","_law_size","_law_place","_law_names_here","_law_k","_law_name","_law_j","_law_at"] ["_law_cell"] (ax Et):=∅
abbrev Eu:Stmt:=top 44
theorem HL:aE ["_law_mixed_here","_law_names_here","_law_width"] ["_law_mixed_here","_law_names_here","_law_width"] (ax Eu):=∅
abbrev Ew:Stmt:=top 45
theorem sc_146:aE ["_law_mixed_here","_law_names_here","_law_width","_law_one","_law_name","_law_op_here"] ["_law_mixed_here","_law_names_here","_law_width"] (ax Ew):=∅
abbrev Ex:Stmt:=top 46
theorem HM:aE ["_law_stack","_law_row"] ["_law_stack","_law_row"] (ax Ex):=∅
abbrev Ey:Stmt:=top 47
theorem sc_148:aE ["_law_stack","_law_kind","_law_rows","_law_name","_law_ones"] ["_law_stack"] (ax Ey):=∅
abbrev Ez:Stmt:=top 48
theorem sc_149:aE ["_law_cells","_law_names_here","_law_width","_law_most","_law_stack","_law_many","_law_k","_law_cell","_law_mixed_here","_law_way","_law_kind","_law_rows","_law_name","_law_ones"] ["_law_cells","_law_names_here","_law_width","_law_most"] (ax Ez):=∅
abbrev EA:Stmt:=top 49
theorem HN:aE ["_law_operand_here","_law_boxes"] ["_law_operand_here","_law_boxes"] (ax EA):=∅
abbrev EB:Stmt:=top 50
theorem sc_151:aE ["_law_op_here","_law_x","_law_y","_law_width","_law_size","_law_total","_law_k","_law_one","_law_other","_law_bit"] ["_law_op_here","_law_x","_law_y","_law_width"] (ax EB):=∅
abbrev EC:Stmt:=top 52
theorem sc_152:aE ["_law_state","_law_boxes","_law_told","_law_width","_law_before","_law_deed_here","_law_ending"] ["_law_state","_law_boxes","_law_told","_law_width"] (ax EC):=∅
abbrev ED:Stmt:=top 53
theorem sc_153:aE ["_law_one","_law_other","_law_boxes","_law_width","_law_beats","_law_mine","_law_theirs","_law_said","_law_heard","_law_here","_law_there","_law_beat_here"] ["_law_one","_law_other","_law_boxes","_law_width","_law_beats"] (ax ED):=∅
abbrev EE:Stmt:=top 54
theorem sc_154:aE ["_law_script","_law_cells","_law_first","_law_width","_law_ins","_law_others","_law_rows","_law_half","_law_program_here","_law_table","_law_found","_law_words","_law_boxes","_law_k","_law_name","_law_beats","_law_due"] ["_law_script"] (ax EE):=∅
def kvs_SORTS:List (Key×V):=[(.inr "plus",.int 0),(.inr "less",.int 0),(.inr "below",.int 1),(.inr "same",.int 1),(.inr "and",.int 2),(.inr "or",.int 2),(.inr "xor",.int 2)]
set_option genInjectivity false in
structure Ad where
 pr:Params
 D_SORTS:Addr
 k_MOST_DEEDS:Tok
 C_TableRun:Addr
 C_Parting:Addr
 C_Program:Addr
 C_Layer:Addr
 f_100:Addr
 e_100:FuncData
 f_101:Addr
 e_101:FuncData
 f_102:Addr
 e_102:FuncData
 f_103:Addr
 e_103:FuncData
 f_104:Addr
 e_104:FuncData
 f_105:Addr
 e_105:FuncData
 f_106:Addr
 e_106:FuncData
 f_107:Addr
 e_107:FuncData
 f_108:Addr
 e_108:FuncData
 f_109:Addr
 e_109:FuncData
 f_110:Addr
 e_110:FuncData
 f_111:Addr
 e_111:FuncData
 f_112:Addr
 e_112:FuncData
 f_113:Addr
 e_113:FuncData
 f_114:Addr
 e_114:FuncData
 f_115:Addr
 e_115:FuncData
 f_116:Addr
 e_116:FuncData
 f_117:Addr
 e_117:FuncData
 f_118:Addr
 e_118:FuncData
 f_119:Addr
 e_119:FuncData
 f_120:Addr
 e_120:FuncData
 f_121:Addr
 e_121:FuncData
 f_122:Addr
 e_122:FuncData
 f_123:Addr
 e_123:FuncData
 f_124:Addr
 e_124:FuncData
 f_125:Addr
 e_125:FuncData
 f_126:Addr
 e_126:FuncData
 f_127:Addr
 e_127:FuncData
 f_128:Addr
 e_128:FuncData
 f_129:Addr
 e_129:FuncData
 f_130:Addr
 e_130:FuncData
 f_131:Addr
 e_131:FuncData
 f_132:Addr
 e_132:FuncData
 f_133:Addr
 e_133:FuncData
 f_134:Addr
 e_134:FuncData
 f_135:Addr
 e_135:FuncData
 f_136:Addr
 e_136:FuncData
 f_137:Addr
 e_137:FuncData
 f_138:Addr
 e_138:FuncData
 f_139:Addr
 e_139:FuncData
 f_140:Addr
 e_140:FuncData
 f_141:Addr
 e_141:FuncData
 f_142:Addr
 e_142:FuncData
 f_143:Addr
 e_143:FuncData
 f_144:Addr
 e_144:FuncData
 f_145:Addr
 e_145:FuncData
 f_146:Addr
 e_146:FuncData
 f_147:Addr
 e_147:FuncData
 f_148:Addr
 e_148:FuncData
 f_149:Addr
 e_149:FuncData
 f_150:Addr
 e_150:FuncData
 f_151:Addr
 e_151:FuncData
 f_152:Addr
 e_152:FuncData
 f_153:Addr
 e_153:FuncData
 f_154:Addr
 e_154:FuncData
structure Txt(K:W.Frag)(mg:Str->Option Value)(t:Ad):Prop where
 g_SORTS:mg "SORTS"=some (.ref t.D_SORTS)
 k_SORTS:nT K t.pr t.D_SORTS kvs_SORTS
 g_MOST_DEEDS:mg "MOST_DEEDS"=some (.int 8 t.k_MOST_DEEDS)
 c_TableRun:KlsAt K mg "TableRun" t.C_TableRun
 n_TableRun_width:NoAttr K t.C_TableRun "width"
 n_TableRun_table:NoAttr K t.C_TableRun "table"
 n_TableRun_boxes:NoAttr K t.C_TableRun "boxes"
 n_TableRun_told:NoAttr K t.C_TableRun "told"
 n_TableRun_place:NoAttr K t.C_TableRun "place"
 c_Parting:KlsAt K mg "Parting" t.C_Parting
 n_Parting_blocks:NoAttr K t.C_Parting "blocks"
 c_Program:KlsAt K mg "Program" t.C_Program
 n_Program_width:NoAttr K t.C_Program "width"
 n_Program_ins:NoAttr K t.C_Program "ins"
 n_Program_boxes:NoAttr K t.C_Program "boxes"
 n_Program_rows:NoAttr K t.C_Program "rows"
 c_Layer:KlsAt K mg "Layer" t.C_Layer
 n_Layer_units:NoAttr K t.C_Layer "units"
 n_Layer_sorts:NoAttr K t.C_Layer "sorts"
 n_Layer_gaps:NoAttr K t.C_Layer "gaps"
 d_100:bc K mg "places_led_to" DI ["ending"] t.f_100 t.e_100
 d_101:bc K mg "place_led_to" DJ ["ending","boxes"] t.f_101 t.e_101
 d_102:bc K mg "led_anew" DK ["ending","places"] t.f_102 t.e_102
 d_103:bc K mg "fewer_states" DL ["table"] t.f_103 t.e_103
 d_104:bc K mg "alike_classes" DM ["table"] t.f_104 t.e_104
 d_105:bc K mg "looks_of" DN ["ending"] t.f_105 t.e_105
 d_106:bc K mg "parted_by_ways" DO ["table","classes"] t.f_106 t.e_106
 d_107:bc K mg "numbered" DP ["marks"] t.f_107 t.e_107
 d_108:bc K mg "led_from_first" DQ ["table"] t.f_108 t.e_108
 d_109:bJ K t.C_Program "__init__" "Program.__init__" DR ["self","width","ins","boxes","rows"] t.f_109 t.e_109
 d_110:bc K mg "copied" DS ["rows"] t.f_110 t.e_110
 d_111:bc K mg "copied_row" DT ["row"] t.f_111 t.e_111
 d_112:bc K mg "word_count" DU ["width"] t.f_112 t.e_112
 d_113:bc K mg "reckoned" DV ["op","x","y","width"] t.f_113 t.e_113
 d_114:bc K mg "blocks_of" DW ["program"] t.f_114 t.e_114
 d_115:bJ K t.C_Parting "__init__" "Parting.__init__" DX ["self"] t.f_115 t.e_115
 d_116:bJ K t.C_Parting "keep_place" "Parting.keep_place" DY ["self"] t.f_116 t.e_116
 d_117:bJ K t.C_Parting "numbered" "Parting.numbered" DZ ["self","block"] t.f_117 t.e_117
 d_118:bJ K t.C_Parting "way_to" "Parting.way_to" E1 ["self","block"] t.f_118 t.e_118
 d_119:bJ K t.C_Parting "opened" "Parting.opened" E2 ["self","rows","block"] t.f_119 t.e_119
 d_120:bJ K t.C_Parting "with_row" "Parting.with_row" E3 ["self","row","block"] t.f_120 t.e_120
 d_121:bJ K t.C_Parting "with_if" "Parting.with_if" E4 ["self","row","block"] t.f_121 t.e_121
 d_122:bJ K t.C_Parting "with_while" "Parting.with_while" E5 ["self","row","block"] t.f_122 t.e_122
 d_123:bc K mg "operands_of" E6 ["deed"] t.f_123 t.e_123
 d_124:bc K mg "boxes_read" E7 ["deed"] t.f_124 t.e_124
 d_125:bc K mg "box_written" E8 ["deed"] t.f_125 t.e_125
 d_126:bc K mg "sort_of" E9 ["deed"] t.f_126 t.e_126
 d_127:bc K mg "word_of" Ea ["operand","boxes"] t.f_127 t.e_127
 d_128:bc K mg "word_made" Eb ["deed","boxes","width"] t.f_128 t.e_128
 d_129:bc K mg "gap" Ec ["deeds","j","k"] t.f_129 t.e_129
 d_130:bc K mg "laid" Ee ["deeds","units"] t.f_130 t.e_130
 d_131:bJ K t.C_Layer "__init__" "Layer.__init__" Ef ["self","deeds","units"] t.f_131 t.e_131
 d_132:bJ K t.C_Layer "full_beats" "Layer.full_beats" Eg ["self","done"] t.f_132 t.e_132
 d_133:bJ K t.C_Layer "grown" "Layer.grown" Eh ["self","done","beats","place"] t.f_133 t.e_133
 d_134:bJ K t.C_Layer "has_room" "Layer.has_room" Ei ["self","done","beat","missing"] t.f_134 t.e_134
 d_135:bJ K t.C_Layer "fits" "Layer.fits" Ej ["self","done","beat","place"] t.f_135 t.e_135
 d_136:bc K mg "first_boxes" Ek ["program","words"] t.f_136 t.e_136
 d_137:bc K mg "table_of" El ["program","units"] t.f_137 t.e_137
 d_138:bc K mg "beats_of" Em ["block","units"] t.f_138 t.e_138
 d_139:bc K mg "writes" En ["deeds","name"] t.f_139 t.e_139
 d_140:bJ K t.C_TableRun "__init__" "TableRun.__init__" Eo ["self","program","table","words"] t.f_140 t.e_140
 d_141:bJ K t.C_TableRun "go_beat" "TableRun.go_beat" Ep ["self"] t.f_141 t.e_141
 d_142:bc K mg "run_table" Er ["program","table","words","most"] t.f_142 t.e_142
 d_143:bc K mg "_law_mixed" Es ["_law_cell","_law_k"] t.f_143 t.e_143
 d_144:bc K mg "_law_names" Et ["_law_cell"] t.f_144 t.e_144
 d_145:bc K mg "_law_operand" Eu ["_law_mixed_here","_law_names_here","_law_width"] t.f_145 t.e_145
 d_146:bc K mg "_law_deed" Ew ["_law_mixed_here","_law_names_here","_law_width"] t.f_146 t.e_146
 d_147:bc K mg "_law_into" Ex ["_law_stack","_law_row"] t.f_147 t.e_147
 d_148:bc K mg "_law_closed" Ey ["_law_stack"] t.f_148 t.e_148
 d_149:bc K mg "_law_program" Ez ["_law_cells","_law_names_here","_law_width","_law_most"] t.f_149 t.e_149
 d_150:bc K mg "_law_word" EA ["_law_operand_here","_law_boxes"] t.f_150 t.e_150
 d_151:bc K mg "_law_op" EB ["_law_op_here","_law_x","_law_y","_law_width"] t.f_151 t.e_151
 d_152:bc K mg "_law_beat" EC ["_law_state","_law_boxes","_law_told","_law_width"] t.f_152 t.e_152
 d_153:bc K mg "_law_walked" ED ["_law_one","_law_other","_law_boxes","_law_width","_law_beats"] t.f_153 t.e_153
 d_154:bc K mg "law" EE ["_law_script"] t.f_154 t.e_154
 z_range:mg "range"=none
 z_isinstance:mg "isinstance"=none
 z_int:mg "int"=none
 z_bool:mg "bool"=none
 z_max:mg "max"=none
 z_enumerate:mg "enumerate"=none
 z_len:mg "len"=none
 z_str:mg "str"=none
 z_list:mg "list"=none
 z_reversed:mg "reversed"=none
 z_tuple:mg "tuple"=none
 z_dict:mg "dict"=none
 z_any:mg "any"=none
 z_min:mg "min"=none
 z_zip:mg "zip"=none
 z_sorted:mg "sorted"=none
theorem yv{K:W.Frag}{pr:Params}{D:Addr}{h0 h1 h2 h3 h4 h5 h6:Int}{t0 u0 t1 u1 t2 u2 t3 u3 t4 u4 t5 u5 t6 u6:Tok}{ep:Nat}(l:K.lookup D=some ⟨.type "dict",none,.dict #[⟨h0,.str "plus" t0,.int 0 u0⟩,⟨h1,.str "less" t1,.int 0 u1⟩,⟨h2,.str "below" t2,.int 1 u2⟩,⟨h3,.str "same" t3,.int 1 u3⟩,⟨h4,.str "and" t4,.int 2 u4⟩,⟨h5,.str "or" t5,.int 2 u5⟩,⟨h6,.str "xor" t6,.int 2 u6⟩] ep,#[]⟩) (s:(D==sysModules)=false) (hD:[h0,h1,h2,h3,h4,h5,h6]=kvs_SORTS.map (fun kv=>Fn pr kv.1)):nT K pr D kvs_SORTS:=by simp only [kvs_SORTS,List.map_cons,List.map_nil,List.cons.injEq,and_true] at hD;obtain ⟨e0,e1,e2,e3,e4,e5,e6⟩:=hD;exact zAE _ _ l s Jkk (.cons (zAB Jkl e0 ⟨_,rfl⟩) (.cons (zAB Jkl e1 ⟨_,rfl⟩) (.cons (zAB Jkl e2 ⟨_,rfl⟩) (.cons (zAB Jkl e3 ⟨_,rfl⟩) (.cons (zAB Jkl e4 ⟨_,rfl⟩) (.cons (zAB Jkl e5 ⟨_,rfl⟩) (.cons (zAB Jkl e6 ⟨_,rfl⟩) (.nil))))))))
variable {H:Hp} {u:TS}
def iY(u:TS)(D:de):L2.St->Hp->Prop:=u D
theorem later{D:de}{σ:L2.St}(h:u D σ H):iY u D σ H:=h
theorem zV{t:TS}{D:de}{σ:L2.St}:HV t u D σ H=t {D with nx:=iY u D} σ H:=rfl
theorem zM{t:TS}{D:de}{σ:L2.St}:HU t u D σ H=∃Mid:L2.St->Hp->Prop,t {D with nx:=Mid} σ H/\∀σ' H',Mid σ' H'->iY u D σ' H':=rfl
theorem GM{c:TT}{t:TS}{D:de}{σ:L2.St}:HS c t u D σ H=c σ H fun b H1=>if b=true then iY t D σ H1 else iY u D σ H1:=rfl
end K81
local macro_rules | `(tactic| simp_arith! [$ts,*])=>`(tactic| simp_arith [-L2.zU,-L2.zL,K81.zV,K81.zM,$ts,*])
local macro_rules | `(tactic| simp_arith only [$ts,*])=>`(tactic| simp_arith [-L2.zU,-L2.DC,-L2.zL,K81.zV,K81.GM,K81.zM,$ts,*])
namespace K81
open PySem L2 PyProof.Rows FA FB FS FP FG FO FR
def sp_law(K:W.Frag):Sp:=fun vs H Q _=>∃(a:Addr)(ns:List Int),vs=[.ref a]/\SqL K H a (ns.map V.int)/\ns.length<=63/\(∀z∈ns,Builtin.Int.intBits z<=2 ^ 20)/\∀H',Q (.bl true) H'
def qg:Sp:=fun vs H Q _=>∃c k:Int,vs=[.int c,.int k]/\Builtin.Int.intBits c<=2 ^ 20/\0<=k/\k<=1000/\Q (.int (cY c k)) H
theorem i7{c k:Int}{H:Hp}{Q:VK}{E:XK}:qg [.int c,.int k] H Q E=(Builtin.Int.intBits c<=2 ^ 20/\0<=k/\k<=1000/\Q (.int (cY c k)) H):=propext ⟨by rintro ⟨_,_,e,q⟩;cases e;exact q,by intro q;exact zAD c k rfl q⟩
section
variable {P:Program} {w:World} {K:W.Frag} {mg:Str->Option Value} {base:Heap} {t:Ad}
theorem kc(T:Txt K mg t):FnOk P w K mg base CX0 1 t.f_143 t.e_143 ["_law_cell","_law_k"] qg:=by
 refine T.d_143.F.ok sc_143 ∅ ?_;rintro cdv A outer s H vs Q E hr ⟨c,k,rfl,hb,k0,k1,q⟩;refine ⟨_,
   (XSs.h
   (ai
    (aH (ar AS (yqv 0 vl) (av vA aj aj) (az _))
     (ak
      (aw (av aP (av aX (av g9 (yqv 0 vl) (av vA aj aj)) (av eA aj (av dc aj (av aP (yqv 1 vl) aj)))) (av eA aj aj))))
     aD)
   (ai
    (aq (i:=2) sc_143.nd rfl ll (av aP (av dc (av bu (av bu (av bu (av AT (yqv 0 vl) (yqv 0 vl)) (av dc aj (yqv 0 vl))) (av dc aj (yqv 1 vl))) aj) aj) aj))
   (ak
    (aw (av aP (av bu (av dc (yqv 2 vl) (yqv 2 vl)) aj) aj)))))),?_⟩
 rw [show aO _ [V.int c,V.int k]=[some (.int c),some (.int k),none] from rfl];rwa [];unfold cY at q;have cp:vK 10 40:=zAB Jkm Jkm Jkm
 refine ⟨cp,aB (fun e=>?_) (fun e=>?_)⟩
 ·rw [zq1 e] at q;have m0:0<=k % 60:=eI _ Jkm;have m1:k % 60<60:=gk _ Jkm;refine zAW cp (.inl ⟨Jkm,Jkm⟩) (zAB Jlk Jlk Jkm) (CDivB.pow Jlk) (zAB Jkm Jkm Jkm) Jkm q
 ·rw [zq0 e] at q;have n0:0<=(c * c+3 * c+7919 * k+1) * 48271 % 2147483629:=eI _ Jkm;have n1:(c * c+3 * c+7919 * k+1) * 48271 % 2147483629<2147483629:=gk _ Jkm;refine zAQ (Cd hb) (.inl ⟨Jkm,Jkm⟩) (.inl ⟨Jkm,Jkm⟩) (.inr ⟨Jkm,Jkm⟩) (.inl ⟨Jlk,Jlk⟩) q
def qh:Sp:=fun vs H Q _=>∃c:Int,vs=[.int c]/\Builtin.Int.intBits c<=2 ^ 20/\∀p H',Same H H'->H p=none->H' p=some (.lst ((cM c).map V.str))->Q (.ref p) H'
theorem uT{c:Int}{H:Hp}{Q:VK}{E:XK}:qh [.int c] H Q E=(Builtin.Int.intBits c<=2 ^ 20/\∀p H',Same H H'->H p=none->H' p=some (.lst ((cM c).map V.str))->Q (.ref p) H'):=propext ⟨by rintro ⟨_,e,q⟩;cases e;exact q,by intro q;exact zn c rfl q⟩
theorem yT(T:Txt K mg t):FnOk P w K mg base CX0 2 t.f_144 t.e_144 ["_law_cell"] qh:=by
 have G_143:=@kc P w K mg base t T;refine T.d_144.F.ok sc_144 ∅ ?_;rintro cdv A outer s H vs Q E hr ⟨c,rfl,hb,q⟩;refine ⟨_,
   (XSs.h
   (ai
    (aq (i:=1) sc_144.nd rfl ll aC)
   (ai
    (aq (i:=2) sc_144.nd rfl ll (au T.d_143 G_143 hr.m (aa (yqv 0 vl) (aa aj ae)) gl))
   (ai
    (aq (i:=3) sc_144.nd rfl ll (av bu aj (av aP (yqv 2 vl) aj)))
   (ai
    (aq (i:=4) sc_144.nd rfl ll (av aP (av aX (yqv 2 vl) aj) (yqv 3 vl)))
   (ai
    (aq (i:=5) sc_144.nd rfl ll (aJ ae))
   (ai
    (br PassesOwn.never rfl (cm gl T.z_range (aa aj ae)) (aA (i:=6) sc_144.nd rfl ll)
     (ai
      (aq (i:=7) sc_144.nd rfl ll aC)
     (ai
      (br PassesOwn.never rfl (cm gl T.z_range (aa (yqv 3 vl) ae)) (aA (i:=8) sc_144.nd rfl ll)
       (ai
        (aq (i:=9) sc_144.nd rfl ll (av bu (av bu (av aX (yqv 2 vl) aj) (av dc (yqv 8 vl) (yqv 8 vl))) (av dc (bA fM gl T.z_int boot_int (aa (bQ aT (yqv 8 vl) (yqv 4 vl) (az _)) ae)) (yqv 6 vl))))
       (ak
        (aq (i:=7) sc_144.nd rfl ll (av sd (yqv 7 vl) (ap Fl (yqv 1 vl) (av aP (yqv 9 vl) aj)))))))
     (ak
      (aR (c7 PySem.F.plainAttrs_list PySem.F.slot_list_append PySem.F.type_list_append aZ (yqv 5 vl) (aa (yqv 7 vl) ae)))))))
   (ai
    (aH (ar aT (av aP (av aX (yqv 2 vl) aj) aj) aj (az _))
     (ak
      (aq (i:=5) sc_144.nd rfl ll (aJ (iR Jlm))))
     aD)
   (ak
    (aw (yqv 5 vl))))))))))),?_⟩
 rw [show aO _ [V.int c]=[some (.int c),none,none,none,none,none,none,none,none,none] from rfl];rwa [i7];refine zAF hb Jkm Jkm ?_;unfold cM at q;have m0:=pF c 3;generalize cY c 3=m at m0 q ⊢;have z0:0<=m % 6:=eI _ Jkm;have z1:m % 6<6:=gk _ Jkm;have l0:0<=m / 6 % (1+m % 6):=eI _ Jlk;refine ⟨CDivB.small Jkm Jkm,Jlk,fun p0 hp0=>⟨Jkm,Jkm,dJ (fun i σ H'=>Same H H'/\H' p0=some (.lst ((nms m i).map V.str))/\∃o6 o7 o8 o9,σ=[some (.int c),some (.str "abcdefghijklmnopqrstuvwxyz"),some (.int m),some (.int (1+m % 6)),some (.int (m / 6 % (1+m % 6))),some (.ref p0),o6,o7,o8,o9])
  (zAB (Same.upd hp0) ac (zBE _ _ _ _ rfl)) ?_ ?_⟩⟩
 ·rintro i σ H' hi ⟨sm,hl,o6,o7,o8,o9,rfl⟩;rwa [];refine ⟨Jlk,Jlk,dJ (fun j σ H2=>H2=H'/\∃o8 o9,σ=[some (.int c),some (.str "abcdefghijklmnopqrstuvwxyz"),some (.int m),some (.int (1+m % 6)),some (.int (m / 6 % (1+m % 6))),some (.ref p0),some (.int i),some (.str (nm m (m / 6 % (1+m % 6)) i j)),o8,o9])
   ⟨rfl,zAH _ _ rfl⟩ ?_ ?_⟩
  ·rintro j σ H2 hj ⟨rfl,o8,o9,rfl⟩;rwa [];have hi8:i<8:=hi;have hb1:(if decide ((j:Int)=m / 6 % (1+m % 6))=true then (1:Int) else 0)=0\/(if decide ((j:Int)=m / 6 % (1+m % 6))=true then (1:Int) else 0)=1:=by
    split
    ·exact .inr rfl
    ·exact .inl rfl
   refine zAI (CDivB.small Jkm Jkm) (.inl ⟨Jlk,by omega +splitNatSub⟩) (.inl ⟨Jlk,Jlk⟩) Jkk (zAC _ (Ft _) ?_ (zAH _ _ rfl));rw [yD];show j+1<=sizeLine;rw [zq8];omega
  ·rintro σ H2 ⟨rfl,o8,o9,rfl⟩;rwa [];have hi8:i<8:=hi;refine ⟨.inl ⟨rfl,_,SqL.of hl⟩,zAS _ hl ?_ (fun b o e=>?_) ?_ (zBE _ _ _ _ rfl)⟩
   ·rw [zq3];unfold nms;rw [zq3,eg,zq8];omega
   ·rw [ao (am e hp0)];exact sm b o e
   ·rw [ac,yE,cg];rfl
 ·rintro σ H' ⟨sm,hl,o6,o7,o8,o9,rfl⟩;rwa [];refine ⟨CDivB.small Jkm Jkm,aB (fun e=>?_) (fun e=>?_)⟩
  ·rw [zq1 e] at q;intro p hp;exact q p _ (sm.trans (Same.upd hp)) (sm.free hp) ac
  ·rw [zq0 e] at q;exact q p0 H' sm hp0 hl
def rq(K:W.Frag)(m:Int)(w:Int)(a:Addr)(H:Hp)(Q:VK):Prop:=∃(ns:List Str),SqL K H a (ns.map V.str)/\0<=w/\w<=8/\Q (mZ m ns w) H
def kA(K:W.Frag):Sp:=fun vs H Q _=>∃(m:Int)(w:Int)(a:Addr),vs=[.int m,.ref a,.int w]/\rq K m w a H Q
theorem rW(T:Txt K mg t):FnOk P w K mg base CX0 1 t.f_145 t.e_145 ["_law_mixed_here","_law_names_here","_law_width"] (kA K):=by
 refine T.d_145.F.ok HL ∅ ?_;rintro cdv A outer s H vs Q E hr ⟨m,w,a,rfl,ns,hS,w0,w8,q⟩;refine ⟨_,
   (XSs.h
   (ai
    (aH (cE (cK (ar iW (av aP (yqv 0 vl) aj) aj (az _)) (cB (ar iW (aL aM gl T.z_len PySem.boot_len (aa (yqv 1 vl) ae)) aj (az _)))))
     (ak
      (aw (ap aN (yqv 1 vl) (av aP (av aX (yqv 0 vl) aj) (aL aM gl T.z_len PySem.boot_len (aa (yqv 1 vl) ae))))))
     aD)
   (ak
    (aw (av aP (av aX (yqv 0 vl) aj) (av eA aj (yqv 2 vl))))))),?_⟩
 rw [show aO _ [V.int m,V.ref a,V.int w]=[some (.int m),some (.ref a),some (.int w)] from rfl];rwa [];unfold mZ at q;have np:(0:Int)<1 * 2 ^ w.toNat:=by rw [nO];exact rc Jkm
 refine aB (fun e=>?_) (fun e=>?_)
 ·refine zn _ (.inl hS) (aB (fun e2=>?_) (fun e2=>?_))
  ·rw [zq3] at e2;have hn:¬ns=[]:=fun z=>by rw [z] at e2;simp at e2
   rw [zq1 ⟨e,hn⟩] at q;refine ⟨CDivB.small Jkm Jkm,zAC _ (.inl hS) ?_ (zAA _ _ hS ?_ q)⟩
   ·rw [zq3];exact e2
   ·rw [zq3];exact ni hn
  ·rw [zq3] at e2;have hn:ns=[]:=zq54.mp Jlk;rw [zq0 (fun z=>z.2 hn)] at q;exact zAF (CDivB.small Jkm Jkm) (zAB Jlk Jlk Jkm) np q
 ·rw [zq0 (fun z=>e z.1)] at q;exact zAF (CDivB.small Jkm Jkm) (zAB Jlk Jlk Jkm) np q
theorem wZ{m w:Int}{a:Addr}{H:Hp}{Q:VK}{E:XK}:kA K [.int m,.ref a,.int w] H Q E=∃ns,SqL K H a (ns.map V.str)/\0<=w/\w<=8/\Q (mZ m ns w) H:=propext ⟨by rintro ⟨_,_,_,e,q⟩;cases e;exact q,fun q=>zAK _ _ _ rfl q⟩
def BJ(K:W.Frag)(m:Int)(w:Int)(a:Addr)(H:Hp)(Q:VK):Prop:=∃(ns:List Str),SqL K H a (ns.map V.str)/\0<=w/\w<=8/\∀p H',Same H H'->H p=none->H' p=some (.tup (oI m ns w))->Q (.ref p) H'
def uZ(K:W.Frag):Sp:=fun vs H Q _=>∃(m:Int)(w:Int)(a:Addr),vs=[.int m,.ref a,.int w]/\BJ K m w a H Q
theorem Cm(T:Txt K mg t):FnOk P w K mg base CX0 2 t.f_146 t.e_146 ["_law_mixed_here","_law_names_here","_law_width"] (uZ K):=by
 have G_145:=@rW P w K mg base t T;refine T.d_146.F.ok sc_146 ∅ ?_;rintro cdv A outer s H vs Q E hr ⟨m,w,a,rfl,ns,hS,w0,w8,q⟩;refine ⟨_,
   (XSs.h
   (ai
    (aq (i:=3) sc_146.nd rfl ll (au T.d_145 G_145 hr.m (aa (av aX (yqv 0 vl) aj) (aa (yqv 1 vl) (aa (yqv 2 vl) ae))) gl))
   (ai
    (aH (cE (iU (ar aT (av aP (yqv 0 vl) aj) aj (az _)) (ir (ar aT (aL aM gl T.z_len PySem.boot_len (aa (yqv 1 vl) ae)) aj (az _)))))
     (ak
      (aw (aG (aa aC (aa (yqv 3 vl) ae)))))
     aD)
   (ai
    (aq (i:=4) sc_146.nd rfl ll (ap aN (yqv 1 vl) (av aP (av aX (yqv 0 vl) aj) (aL aM gl T.z_len PySem.boot_len (aa (yqv 1 vl) ae)))))
   (ai
    (aH (ar aT (av aP (yqv 0 vl) aj) aj (az _))
     (ak
      (aw (aG (aa aC (aa (yqv 4 vl) (aa (yqv 3 vl) ae))))))
     aD)
   (ai
    (aq (i:=5) sc_146.nd rfl ll (ap aN (aJ (iR Jlm)) (av g9 (av aP (yqv 0 vl) aj) aj)))
   (ak
    (aw (aG (aa (yqv 5 vl) (aa (yqv 4 vl) (aa (yqv 3 vl) (aa (au T.d_145 G_145 hr.m (aa (av aX (yqv 0 vl) aj) (aa (yqv 1 vl) (aa (yqv 2 vl) ae))) gl) ae))))))))))))),?_⟩
 rw [show aO _ [V.int m,V.ref a,V.int w]=[some (.int m),some (.ref a),some (.int w),none,none,none] from rfl];rwa [wZ];unfold oI at q;have n0:0<=m % 9:=eI _ Jkm;have n1:m % 9<9:=gk _ Jkm;have cd:∀z,0<z->z<1073741824->CDivB m z:=fun z h1 h2=>CDivB.small h1 h2;refine ⟨cd _ Jkm Jkm,zAG ns hS w0 w8 (aB (fun e=>?_) (fun e=>?_))⟩
 ·rw [zq1 (.inl e)] at q;intro p hp;exact q p _ (Same.upd hp) hp ac
 ·refine zn _ (.inl hS) (aB (fun e2=>?_) (fun e2=>?_))
  ·rw [zq3] at e2;rw [zq1 (.inr (zq54.mp Jlk))] at q;intro p hp;exact q p _ (Same.upd hp) hp ac
  ·rw [zq3] at e2;have hn:¬ns=[]:=fun z=>e2 (by rw [z];rfl);rw [zq0 (fun z=>z.elim e hn)] at q;refine ⟨cd _ Jkm Jkm,zAC _ (.inl hS) ?_ (zAA _ _ hS (by rw [zq3];exact ni hn) (aB (fun e3=>?_) (fun e3=>?_)))⟩
   ·rw [zq3];have:=zq56.mpr hn;omega
   ·rw [zq1 e3] at q;intro p hp;exact q p _ (Same.upd hp) hp ac
   ·rw [zq0 e3] at q;intro p hp;refine zAE _ _ (SqL.of ac) (G0 Jlk Jlk) (cd _ Jkm Jkm) (zAG ns ((Same.upd hp).seq hS) w0 w8 fun p2 hp2=>?_);exact q p2 _ ((Same.upd hp).trans (Same.upd hp2)) ((Same.upd hp).free hp2) ac
theorem sv{m w:Int}{a:Addr}{H:Hp}{Q:VK}{E:XK}:uZ K [.int m,.ref a,.int w] H Q E=∃ns,SqL K H a (ns.map V.str)/\0<=w/\w<=8/\∀p H',Same H H'->H p=none->H' p=some (.tup (oI m ns w))->Q (.ref p) H':=propext ⟨by rintro ⟨_,_,_,e,q⟩;cases e;exact q,fun q=>zAK _ _ _ rfl q⟩
def BK(K:W.Frag)(S:Addr)(y:V)(H:Hp)(Q:VK):Prop:=∃(H0:Hp)(xs:List V)(e:Ent)(es:List Ent)(f:List Addr)(g:List Addr)(r:Stm)(B:Nat),Same H0 H/\H S=some (.lst xs)/\StkV K H xs (e::es) f/\StmV K H y r g/\(S::(f++g)).Nodup/\(∀a∈S::(f++g),H0 a=none)/\
 (∀e'∈e::es,e'.rows.length<=B)/\B<=10000/\∀H',dz K H0 H' S (e.add r::es) (B+1)->Q .non H'
def v9(K:W.Frag):Sp:=fun vs H Q _=>∃(S:Addr)(y:V),vs=[.ref S,y]/\BK K S y H Q
theorem uA(T:Txt K mg t):FnOk P w K mg base CX0 1 t.f_147 t.e_147 ["_law_stack","_law_row"] (v9 K):=by
 refine T.d_147.F.ok HM ∅ ?_;rintro cdv A outer s H vs Q E hr ⟨S,y,rfl,H0,xs,e,es,f,g,r,B,sm,hS,hK,hy,nd,fr0,few,hB,q⟩;refine ⟨_,
   (XSs.h
   (ak
    (aR (c7 PySem.F.plainAttrs_list PySem.F.slot_list_append PySem.F.type_list_append aZ (ap ay (ap aN (yqv 0 vl) (iT gc aj)) aj) (aa (yqv 1 vl) ae))))),?_⟩
 rw [show aO _ [V.ref S,y]=[some (.ref S),some y] from rfl];obtain ⟨xs',x,f',g',rfl,rfl,h1,h2⟩:=hK.inv;obtain ⟨qq,a,o,ys,zs,fa,fo,rfl,hq,ha,hr1,ho,hr2,rfl⟩:=h2;rwa [];refine zAA _ _ (SqL.of hS) fk ?_;rwa [];refine zAE _ _ hq rfl (.inl ⟨rfl,_,SqL.of ha⟩) ?_;rwa [];have ly:=hr1.length;have lB:=few e Jll;have nd':(S::((a::o::((fa++g)++fo))++f')).Nodup:=by
  refine (List.Perm.nodup_iff ?_).mp nd;refine .cons _ (.cons _ (.cons _ ?_));show ((fa++fo)++f'++g).Perm ((fa++g++fo)++f');have e1:(fa++fo)++f'++g=fa++((fo++f')++g):=by simp only [List.append_assoc]
  have e2:(fa++g++fo)++f'=fa++(g++(fo++f')):=by simp only [List.append_assoc]
  rw [e1,e2];exact List.Perm.append_left fa Bh
 have mem':∀b,b∈S::((a::o::((fa++g)++fo))++f')->b∈S::((a::o::(fa++fo))++f'++g):=fun b hb=>by simp only [List.mem_cons,List.mem_append] at hb ⊢;rcases hb with z | (z | z | (z | z) | z) | z<;>simp [z]
 have nS:¬S=a:=fun z=>by subst z;simp at nd
 have na:a∉(o::((fa++g)++fo))++f':=(zq34.mp (zq34.mp nd').2).1;have naf:a∉f':=fun z=>na (d5 _ z);have nao:¬o=a:=fun z=>na (by rw [<- z];simp);have nafa:a∉fa:=fun z=>na (by simp [z]);have nag:a∉g:=fun z=>na (by simp [z]);have nafo:a∉fo:=fun z=>na (by simp [z]);have tt:TSame H (upd H a (.lst (ys++[y]))):=TSame.updL ha;refine zAC ys ha (by rw [zq8];omega) (q _ ⟨sm.updM (fr0 a Jll),zAE (xs'++[.ref qq]) _ (by rw [ao nS];exact hS) (.snoc (h1.keep tt (Kept.upd naf)) (zBF qq a o (ys++[y]) zs (fa++g) fo rfl (tt.seqT hq) ac ((hr1.keep tt (Kept.upd nafa)).snoc (hy.keep tt (Kept.upd nag))) (by rw [ao nao];exact ho) (hr2.keep tt (Kept.upd nafo)) rfl)) nd' fun b hb=>fr0 b (mem' b hb),fun e' he'=>?_⟩);rcases zq12.mp he' with z | z
 ·subst z;show (e.rows++[r]).length<=B+1;simp;omega
 ·have:=few e' (zq9 _ z);omega
def vO(K:W.Frag)(S:Addr)(H:Hp)(Q:VK):Prop:=∃(H0:Hp)(e:Ent)(e2:Ent)(es:List Ent)(B:Nat),dz K H0 H S (e::e2::es) B/\B<=10000/\∀H',dz K H0 H' S (eP (e::e2::es)) (B+1)->Q .non H'
def mf(K:W.Frag):Sp:=fun vs H Q _=>∃(S:Addr),vs=[.ref S]/\vO K S H Q
theorem iM{S:Addr}{y:V}{H:Hp}{Q:VK}{E:XK}:v9 K [.ref S,y] H Q E=∃(H0:Hp)(xs:List V)(e:Ent)(es:List Ent)(f g:List Addr)(r:Stm)(B:Nat),Same H0 H/\H S=some (.lst xs)/\StkV K H xs (e::es) f/\StmV K H y r g/\(S::(f++g)).Nodup/\(∀a∈S::(f++g),H0 a=none)/\
 (∀e'∈e::es,e'.rows.length<=B)/\B<=10000/\∀H',dz K H0 H' S (e.add r::es) (B+1)->Q .non H':=propext ⟨by rintro ⟨_,_,e,q⟩;cases e;exact q,fun q=>zAD _ _ rfl q⟩
theorem wI(T:Txt K mg t):FnOk P w K mg base CX0 2 t.f_148 t.e_148 ["_law_stack"] (mf K):=by
 have G_147:=@uA P w K mg base t T;refine T.d_148.F.ok sc_148 ∅ (fun cdv A outer s H vs Q E hr h=>?_);obtain ⟨S,rfl,H0,e,e2,es,B,⟨sm,⟨xs,f,hS,hK,nd,fr0⟩,few⟩,hB,q⟩:=h;refine ⟨_,
   (XSs.h
   (ai
    (ip (g7 PySem.F.plainAttrs_list PySem.F.slot_list_pop PySem.F.type_list_pop rT (yqv 0 vl)) (eo rfl (aV (aA (i:=1) sc_148.nd rfl ll) (aV (aA (i:=2) sc_148.nd rfl ll) (aV (aA (i:=3) sc_148.nd rfl ll) (aV (aA (i:=4) sc_148.nd rfl ll) dk))))))
   (ak
    (aH (ar aT (yqv 1 vl) aC (az _))
     (ak
      (aR (au T.d_147 G_147 hr.m (aa (yqv 0 vl) (aa (aG (aa aC (aa (yqv 3 vl) (aa (yqv 2 vl) ae)))) ae)) gl)))
     (ak
      (aH (ar aT (yqv 1 vl) aC (az _))
       (ak
        (aR (au T.d_147 G_147 hr.m (aa (yqv 0 vl) (aa (aG (aa aC (aa (yqv 3 vl) (aa (yqv 2 vl) (aa (aJ ae) ae))))) ae)) gl)))
       (ak
        (aR (au T.d_147 G_147 hr.m (aa (yqv 0 vl) (aa (aG (aa aC (aa (yqv 3 vl) (aa (yqv 4 vl) (aa (yqv 2 vl) ae))))) ae)) gl))))))))),?_⟩
 rw [show aO _ [V.ref S]=[some (.ref S),none,none,none,none] from rfl];obtain ⟨xs',x,f',g',rfl,rfl,h1,h2⟩:=hK.inv;obtain ⟨qq,a,o,ys,zs,fa,fo,rfl,hq,ha,hr1,ho,hr2,rfl⟩:=h2;rwa [iM];refine ⟨.inl ⟨rfl,_,SqL.of hS⟩,zAA _ (.ref qq) hS Jll ?_⟩;rwa [iM];have tS:∀o',TSame H (upd H S o'):=fun o'=>TSame.updL hS;have nS:S∉(a::o::(fa++fo))++f':=(zq34.mp nd).1;have ndf:=(zq34.mp nd).2;have nSf:S∉f':=fun z=>nS (d5 _ z);have nSa:¬a=S:=fun z=>nS (by rw [z];simp);have nSo:¬o=S:=fun z=>nS (by rw [z];simp);have nSfa:S∉fa:=fun z=>nS (by simp [z]);have nSfo:S∉fo:=fun z=>nS (by simp [z]);have edl:(xs'++[V.ref qq]).dropLast=xs':=by simp
 rw [edl];have tt:=tS (.lst xs');have s1:Same H0 (upd H S (.lst xs')):=sm.updM (fr0 S Jll);have k1:=h1.keep tt (Kept.upd nSf);have r1:=hr1.keep tt (Kept.upd nSfa);have r2:=hr2.keep tt (Kept.upd nSfo);have ha1:upd H S (.lst xs') a=some (.lst ys):=by rw [ao nSa];exact ha
 have ho1:upd H S (.lst xs') o=some (.lst zs):=by rw [ao nSo];exact ho
 have few':∀e'∈e2::es,e'.rows.length<=B:=fun e' he=>few e' (zq9 _ he);have q':∀H',dz K H0 H' S (e2.add (cy e)::es) (B+1)->Q .non H':=q;have sub:∀(g:List Addr),(∀b∈g,b∈a::o::(fa++fo))->∀b∈S::(f'++g),b∈S::((a::o::(fa++fo))++f'):=fun g hg b hb=>by
  rcases zq12.mp hb with z | z
  ·rw [z];simp
  ·rcases zq18.mp z with z | z
   ·exact zq9 _ (d5 _ z)
   ·exact zq9 _ (iu _ (hg b z))
 have nds:∀(g:List Addr),g.Sublist (a::o::(fa++fo))->(S::(f'++g)).Nodup:=fun g hg=>by
  have h3:(g++f').Nodup:=ndf.sublist (List.Sublist.append hg (List.Sublist.refl _));have h4:(f'++g).Nodup:=(List.Perm.nodup_iff Bh).mp h3;refine zq34.mpr ⟨fun z=>?_,h4⟩;rcases zq18.mp z with z | z
  ·exact nSf z
  ·exact nS (iu _ (hg.subset z))
 refine zAC _ (tt.seqT hq) rfl ?_;rwa [iM];have dh:cy e=.ifs e.name e.ones e.rows->∀p,upd H S (.lst xs') p=none->∃(H0_1:Hp)(xs:List V)(e_1:Ent)(es_1:List Ent)(f g:List Addr)(r:Stm)(B_1:Nat),Same H0_1 (upd (upd H S (.lst xs')) p (.tup [V.str "if",V.str e.name,V.ref o,V.ref a]))/\upd (upd H S (.lst xs')) p (.tup [V.str "if",V.str e.name,V.ref o,V.ref a]) S=some (.lst xs)/\
   StkV K (upd (upd H S (.lst xs')) p (.tup [V.str "if",V.str e.name,V.ref o,V.ref a])) xs (e_1::es_1) f/\StmV K (upd (upd H S (.lst xs')) p (.tup [V.str "if",V.str e.name,V.ref o,V.ref a])) (.ref p) r g/\(S::(f++g)).Nodup/\(∀b∈S::(f++g),H0_1 b=none)/\(∀e'∈e_1::es_1,e'.rows.length<=B_1)/\B_1<=10000/\
   ∀H',dz K H0_1 H' S (e_1.add r::es_1) (B_1+1)->Q .non H':=by
  intro hcl p hp;have s2:=Same.upd (o:=.tup [V.str "if",V.str e.name,V.ref o,V.ref a]) hp;rw [hcl] at q';have pm:(o::a::(fo++fa)).Perm (a::o::(fa++fo)):=(List.Perm.swap a o _).trans (.cons _ (.cons _ Bh));refine zAX H0 xs' e2 es f' (o::a::(fo++fa)) (.ifs e.name e.ones e.rows) B (zAY (s1.trans s2) (s2 _ _ ac) (k1.keep s2.ts (Kept.of s2)) (.ifs (SqT.of ac) (s2 _ _ ho1) (s2 _ _ ha1) (r2.same s2) (r1.same s2)) ?_ (fun b hb=>fr0 b (sub _ (fun b hb=>pm.mem_iff.mp hb) b hb)) few' hB q');refine (List.Perm.nodup_iff (.cons _ ?_)).mp (nds _ (List.Sublist.refl _));exact List.Perm.append_left _ pm.symm
 cases hkd:e.kind with
 |whl=>
  refine aB (fun _=>fun p hp=>?_) (fun z=>absurd rfl z);have s2:=Same.upd (o:=.tup [V.str "while",V.str e.name,V.ref a]) hp;have hcl:cy e=.whl e.name e.rows:=by unfold cy;rw [hkd]
  rw [hcl] at q';refine zAX H0 xs' e2 es f' (a::fa) (.whl e.name e.rows) B (zAY (s1.trans s2) (s2 _ _ ac) (k1.keep s2.ts (Kept.of s2)) (.whl (SqT.of ac) (s2 _ _ ha1) (r1.same s2)) (nds _ ?_) (fun b hb=>fr0 b (sub _ ?_ b hb)) few' hB q')
  ·exact .cons_cons _ (.cons _ (qO _ _))
  ·intro b hb;simp at hb ⊢;rcases hb with z | z<;>simp [z]
 |iff=>
  refine aB (fun z=>absurd z Jkk) (fun _=>aB (fun _=>fun p hp p2 hp2=>?_) (fun z=>absurd rfl z));have s2:=Same.upd (o:=.lst []) hp;have s3:=Same.upd (o:=.tup [V.str "if",V.str e.name,V.ref a,V.ref p]) hp2;have s23:=s2.trans s3;have hcl:cy e=.ifs e.name e.rows []:=by unfold cy;rw [hkd]
  rw [hcl] at q';have np:∀b,b∈S::((a::o::(fa++fo))++f')->¬p=b:=fun b hb z=>by
   have ex:∃u,upd H S (.lst xs') b=some u:=by
    rcases zq12.mp hb with y | y
    ·exact ⟨_,by rw [y];exact ac⟩
    rcases zq18.mp y with y | y
    ·rcases zq12.mp y with y | y
     ·exact ⟨_,by rw [y];exact ha1⟩
     rcases zq12.mp y with y | y
     ·exact ⟨_,by rw [y];exact ho1⟩
     rcases zq18.mp y with y | y
     ·obtain ⟨_,h⟩:=r1.tracked b y;exact ⟨_,h⟩
     ·obtain ⟨_,h⟩:=r2.tracked b y;exact ⟨_,h⟩
    ·obtain ⟨_,h⟩:=k1.tracked b y;exact ⟨_,h⟩
   obtain ⟨u,hu⟩:=ex;exact am hu hp z.symm
  have sa:∀b∈S::(f'++(a::fa)),b∈S::((a::o::(fa++fo))++f'):=sub _ (fun b hb=>by simp at hb ⊢;rcases hb with z | z<;>simp [z]);refine ⟨H0,xs',e2,es,f',a::p::(fa++[]),.ifs e.name e.rows [],B,s1.trans s23,s23 _ _ ac,k1.keep s23.ts (Kept.of s23),.ifs (SqT.of ac) (s23 _ _ ha1) (s3 _ _ ac) (r1.same s23) .nil,?_,fun b hb=>?_,few',hB,q'⟩
  ·have h5:(p::(S::(f'++(a::fa)))).Nodup:=zq34.mpr ⟨fun z=>np p (sa p z) rfl,nds _ (.cons_cons _ (.cons _ (qO _ _)))⟩;refine (List.Perm.nodup_iff ?_).mp h5;rw [ix];refine (List.Perm.swap S p _).trans (.cons _ ?_);have e1:f'++a::p::fa=(f'++[a])++p::fa:=by simp
   have e2:f'++a::fa=(f'++[a])++fa:=by simp
   rw [e1,e2];exact List.perm_middle.symm
  ·by_cases hbp:b=p
   ·rw [hbp];exact s1.free hp
   ·refine fr0 b (sa b ?_);simp at hb ⊢;rcases hb with z | z | z | z | z
    ·exact .inl z
    ·exact .inr (.inl z)
    ·exact .inr (.inr (.inl z))
    ·exact absurd z hbp
    ·exact .inr (.inr (.inr z))
 |all=>
  refine aB (fun z=>absurd z Jkk) (fun _=>aB (fun z=>absurd z Jkk) (fun _=>fun p hp=>?_));exact dh (by unfold cy;rw [hkd]) p hp
 |els=>refine aB (fun z=>absurd z Jkk) (fun _=>aB (fun z=>absurd z Jkk) (fun _=>fun p hp=>?_));exact dh (by unfold cy;rw [hkd]) p hp
def rA(K:W.Frag)(a:Addr)(b:Addr)(w:Int)(most:Int)(H:Hp)(Q:VK):Prop:=∃(cs:List Int)(ns:List Str),SqL K H a (cs.map V.int)/\cs.length<=63/\(∀z∈cs,Builtin.Int.intBits z<=2 ^ 20)/\SqL K H b (ns.map V.str)/\0<=w/\w<=8/\
 ∀p xs f H',Same H H'->H' p=some (.lst xs)->StmsV K H' xs (dW cs ns w most) f->(p::f).Nodup->(∀c∈p::f,H c=none)->Q (.ref p) H'
def kB(K:W.Frag):Sp:=fun vs H Q _=>∃(a:Addr)(b:Addr)(w:Int)(most:Int),vs=[.ref a,.ref b,.int w,.int most]/\rA K a b w most H Q
theorem i5{S:Addr}{H:Hp}{Q:VK}{E:XK}:mf K [.ref S] H Q E=∃(H0:Hp)(e e2:Ent)(es:List Ent)(B:Nat),dz K H0 H S (e::e2::es) B/\B<=10000/\∀H',dz K H0 H' S (eP (e::e2::es)) (B+1)->Q .non H':=propext ⟨by rintro ⟨_,e,q⟩;cases e;exact q,fun q=>zn _ rfl q⟩
theorem rX(T:Txt K mg t):FnOk P w K mg base CX0 4 t.f_149 t.e_149 ["_law_cells","_law_names_here","_law_width","_law_most"] (kB K):=by
 have G_143:=@kc P w K mg base t T;have G_146:=@Cm P w K mg base t T;have G_147:=@uA P w K mg base t T;have G_148:=@wI P w K mg base t T;refine T.d_149.F.ok sc_149 ∅ ?_;rintro cdv A outer s H vs Q E hr ⟨a,b,w,most,rfl,cs,ns,hA,lcs,bcs,hB,w0,w8,q⟩;refine ⟨_,
   (XSs.h
   (ai
    (aq (i:=4) sc_149.nd rfl ll (aJ (aa (aG (aa aC (aa (aJ ae) (aa aC (aa (aJ ae) ae))))) ae)))
   (ai
    (aq (i:=5) sc_149.nd rfl ll aj)
   (c9
    (br PassesOwn.never rfl (kI T.z_enumerate (aa (yqv 0 vl) ae) gl) (eo rfl (aV (aA (i:=6) sc_149.nd rfl ll) (aV (aA (i:=7) sc_149.nd rfl ll) dk)))
     (ai
      (aq (i:=8) sc_149.nd rfl ll (au T.d_143 G_143 hr.m (aa (yqv 7 vl) (aa (yqv 6 vl) ae)) gl))
     (ai
      (aq (i:=9) sc_149.nd rfl ll (av aP (yqv 8 vl) aj))
     (ak
      (aH (cE (cK (ar eF (yqv 9 vl) aj (az _)) (cB (ar iW (aL aM gl T.z_len PySem.boot_len (aa (yqv 4 vl) ae)) aj (az _)))))
       (ak
        (aH (cE (cK (ar aT (yqv 9 vl) aj (az _)) (cB (ar aT (ap ay (ap aN (yqv 4 vl) (iT gc aj)) aj) aC (az _)))))
         (ai
          (ip (g7 PySem.F.plainAttrs_list PySem.F.slot_list_pop PySem.F.type_list_pop rT (yqv 4 vl)) (eo rfl (aV (aA (i:=10) sc_149.nd rfl ll) (aV (aA (i:=11) sc_149.nd rfl ll) (aV (aA (i:=12) sc_149.nd rfl ll) (aV (aA (i:=13) sc_149.nd rfl ll) dk))))))
         (ak
          (aR (c7 PySem.F.plainAttrs_list PySem.F.slot_list_append PySem.F.type_list_append aZ (yqv 4 vl) (aa (aG (aa aC (aa (aJ ae) (aa (yqv 12 vl) (aa (yqv 11 vl) ae))))) ae)))))
         (ak
          (aR (au T.d_148 G_148 hr.m (aa (yqv 4 vl) ae) gl)))))
       (ak
        (aH (ar eF (yqv 5 vl) (yqv 3 vl) (az _))
         (ai
          (aq (i:=5) sc_149.nd rfl ll (av bu (yqv 5 vl) aj))
         (ak
          (aH (cE (cK (ar eF (yqv 9 vl) aj (az _)) (cK (ar eF (aL aM gl T.z_len PySem.boot_len (aa (yqv 4 vl) ae)) aj (az _)) (cB (ar iW (aL aM gl T.z_len PySem.boot_len (aa (yqv 1 vl) ae)) aj (az _))))))
           (ak
            (aR (c7 PySem.F.plainAttrs_list PySem.F.slot_list_append PySem.F.type_list_append aZ (yqv 4 vl) (aa (aG (aa (ap aN (aJ (iR Jlm)) (av g9 (yqv 9 vl) aj)) (aa (aJ ae) (aa (ap aN (yqv 1 vl) (av aP (av aX (yqv 8 vl) aj) (aL aM gl T.z_len PySem.boot_len (aa (yqv 1 vl) ae)))) (aa (aJ ae) ae))))) ae))))
           (ak
            (aR (au T.d_147 G_147 hr.m (aa (yqv 4 vl) (aa (au T.d_146 G_146 hr.m (aa (av aX (yqv 8 vl) aj) (aa (yqv 1 vl) (aa (yqv 2 vl) ae))) gl) ae)) gl))))))
         aD)))))))
   (ai
    (eN PassesOwn.never (ar iW (aL aM gl T.z_len PySem.boot_len (aa (yqv 4 vl) ae)) aj (az _))
     (ak
      (aR (au T.d_148 G_148 hr.m (aa (yqv 4 vl) ae) gl))))
   (ak
    (aw (ap ay (ap aN (yqv 4 vl) aj) aj)))))))),?_⟩
 rw [show aO _ [V.ref a,V.ref b,V.int w,V.int most]=[some (.ref a),some (.ref b),some (.int w),some (.int most),none,none,none,none,none,none,none,none,none,none] from rfl];rwa [i7,sv,iM,i5];intro p1 hp1 p2 hp2 p3 hp3 S hS;have s1:Same H (upd H p1 (.lst [])):=Same.upd hp1;have s2:=s1.updN (o:=.lst []) hp2;have s3:=s2.updN (o:=.tup [V.str "all",V.ref p1,V.str "",V.ref p2]) hp3;have s4:=s3.updN (o:=.lst [V.ref p3]) hS;refine ⟨fun σ H'=>(∃B,B<=63/\dz K H H' S (bH ns w most cs 0 start0).1 B/\1<=(bH ns w most cs 0 start0).1.length/\(bH ns w most cs 0 start0).1.length<=9)/\∃o5 o6 o7 o8 o9 o10 o11 o12 o13,σ=[some (.ref a),some (.ref b),some (.int w),some (.int most),some (.ref S),o5,o6,o7,o8,o9,o10,o11,o12,o13],⟨⟨_,s4.seq hA⟩,?_⟩,?_⟩
 ·obtain ⟨Pv,hPv⟩:∃Pv:Nat->L2.St->Hp->Prop,Pv=fun i σ H'=>(dz K H H' S (bH ns w most (cs.take i) 0 start0).1 i/\1<=(bH ns w most (cs.take i) 0 start0).1.length/\(bH ns w most (cs.take i) 0 start0).1.length<=9)/\∃o6 o7 o8 o9 o10 o11 o12 o13,σ=[some (.ref a),some (.ref b),some (.int w),some (.int most),some (.ref S),some (.int (bH ns w most (cs.take i) 0 start0).2),o6,o7,o8,o9,o10,o11,o12,o13]:=⟨_,rfl⟩
  have hI:∀i σ H',((dz K H H' S (bH ns w most (cs.take i) 0 start0).1 i/\1<=(bH ns w most (cs.take i) 0 start0).1.length/\(bH ns w most (cs.take i) 0 start0).1.length<=9)/\∃o6 o7 o8 o9 o10 o11 o12 o13,σ=[some (.ref a),some (.ref b),some (.int w),some (.int most),some (.ref S),some (.int (bH ns w most (cs.take i) 0 start0).2),o6,o7,o8,o9,o10,o11,o12,o13])->Pv i σ H':=by rw [hPv];exact fun _ _ _ h=>h
  have hE:∀i σ H',Pv i σ H'->(dz K H H' S (bH ns w most (cs.take i) 0 start0).1 i/\1<=(bH ns w most (cs.take i) 0 start0).1.length/\(bH ns w most (cs.take i) 0 start0).1.length<=9)/\∃o6 o7 o8 o9 o10 o11 o12 o13,σ=[some (.ref a),some (.ref b),some (.int w),some (.int most),some (.ref S),some (.int (bH ns w most (cs.take i) 0 start0).2),o6,o7,o8,o9,o10,o11,o12,o13]:=by rw [hPv];exact fun _ _ _ h=>h
  clear hPv;refine mM (xs:=cs.map V.int) Pv (hI _ _ _ ?_) (fun i σ H' _ h=>(hE _ _ _ h).1.1.same.seq hA) ?_ ?_
  ·have hp1':upd (upd (upd (upd H p1 (.lst [])) p2 (.lst [])) p3 (.tup [V.str "all",V.ref p1,V.str "",V.ref p2])) S (.lst [V.ref p3]) p1=some (.lst []):=Same.upd hS _ _ (Same.upd hp3 _ _ (Same.upd hp2 _ _ ac));have hp2':upd (upd (upd (upd H p1 (.lst [])) p2 (.lst [])) p3 (.tup [V.str "all",V.ref p1,V.str "",V.ref p2])) S (.lst [V.ref p3]) p2=some (.lst []):=Same.upd hS _ _ (Same.upd hp3 _ _ ac);have hp3':upd (upd (upd (upd H p1 (.lst [])) p2 (.lst [])) p3 (.tup [V.str "all",V.ref p1,V.str "",V.ref p2])) S (.lst [V.ref p3]) p3=some (.tup [V.str "all",V.ref p1,V.str "",V.ref p2]):=Same.upd hS _ _ ac;have n1:¬p1=p2:=fun z=>by rw [z] at hp2;exact absurd hp2 (by rw [ac];exact fun z=>nomatch z)
   have n2:¬p1=S:=fun z=>by rw [<- z] at hS;rw [Same.upd hp3 _ _ (Same.upd hp2 _ _ ac)] at hS;cases hS
   have n3:¬p2=S:=fun z=>by rw [<- z] at hS;rw [Same.upd hp3 _ _ ac] at hS;cases hS
   refine ⟨zAB ⟨s4,zAE ([.ref p3]) ((p1::p2::([]++[]))++[]) ac (StkV.snoc (xs:=[]) .nil (zBF p3 p1 p2 ([]) ([]) ([]) ([]) rfl (SqT.of hp3') hp1' .nil hp2' .nil rfl)) ?_ fun c hc=>?_,fun e he=>?_⟩ (by simp [bH,start0]) (by simp [bH,start0]),zAX _ _ _ _ _ _ _ _ rfl⟩
   ·simp only [List.nodup_cons,List.append_nil,List.cons_append,List.nil_append,List.mem_cons,List.not_mem_nil,or_false,not_or];exact zAB ⟨fun z=>n2 z.symm,fun z=>n3 z.symm⟩ n1 Jll
   ·simp at hc;rcases hc with z | z | z
    ·rw [z];exact s3.free hS
    ·rw [z];exact hp1
    ·rw [z];exact s1.free hp2
   ·have:e=⟨.all,[],"",[]⟩:=by simpa [bH,start0] using he
    rw [this];exact cq _
  ·intro i x σ H' pp hx hpp hv;obtain ⟨⟨⟨sm,⟨xs,f,hSx,hK,nd,fr⟩,few⟩,l1,l9⟩,o6,o7,o8,o9,o10,o11,o12,o13,rfl⟩:=hE _ _ _ hv;clear hv;rw [bE] at hx;obtain ⟨c,hc,rfl⟩:=zq42.mp hx;obtain ⟨hi,hce⟩:=zq11.mp hc;have enx:bH ns w most (cs.take (i+1)) 0 start0=cA ns w most i c (bH ns w most (cs.take i) 0 start0):=by rw [dy hi,hce,kr,dw,Bi,xw Jlk]
   have hN:∀σ H',((dz K H H' S (cA ns w most i c (bH ns w most (cs.take i) 0 start0)).1 (i+1)/\1<=(cA ns w most i c (bH ns w most (cs.take i) 0 start0)).1.length/\(cA ns w most i c (bH ns w most (cs.take i) 0 start0)).1.length<=9)/\∃o6 o7 o8 o9 o10 o11 o12 o13,σ=[some (.ref a),some (.ref b),some (.int w),some (.int most),some (.ref S),some (.int (cA ns w most i c (bH ns w most (cs.take i) 0 start0)).2),o6,o7,o8,o9,o10,o11,o12,o13])->Pv (i+1) σ H':=fun σ H' h=>hI _ _ _ (by rw [enx];exact h);clear hI hE enx;generalize bH ns w most (cs.take i) 0 start0=st at hK few l1 l9 hN ⊢;obtain ⟨es,many⟩:=st;rwa [i7,sv,iM,i5];refine zAC _ (SqT.of ac) rfl ?_;rwa [i7,sv,iM,i5];refine zAF (bcs c (bD hc)) Jlk Jlk ?_;have s5:Same H' (upd H' pp (.tup [V.int i,V.int c])):=Same.upd hpp;have sm5:=sm.trans s5;have hS5:=s5 _ _ hSx;have hK5:=hK.keep s5.ts (Kept.of s5);have hB5:=sm5.seq hB;generalize upd H' pp (.tup [V.int i,V.int c])=H5 at s5 sm5 hS5 hK5 hB5 ⊢;clear hSx hK;have lx:=hK5.length;have g0:=pF c i;unfold cA at hN;generalize cY c i=g at g0 hN ⊢;have y0:0<=g % 12:=eI _ Jkm;have y1:g % 12<12:=gk _ Jkm;have trk:∀c'∈S::f,∃u,H5 c'=some u:=fun c' hc'=>by
    rcases zq12.mp hc' with z | z
    ·exact ⟨_,by rw [z];exact hS5⟩
    ·obtain ⟨u,hu⟩:=hK5.tracked c' z;exact ⟨_,hu⟩
   dsimp only at l1 l9 few lx hN;refine F5 (SqL.of hS5) (fun e1 c2=>?_) (fun e1=>?_)
   ·have c1:g % 12<2/\1<es.length:=⟨e1,Jlk⟩
    rw [zq1 c1] at hN;obtain ⟨e,e2,es',rfl⟩:∃e e2 es',es=e::e2::es':=by
     match es,c1.2 with
     |e::e2::es',_=>exact zAJ e e2 es' rfl
    obtain ⟨xs',x,f',g',rfl,rfl,h1,h2⟩:=hK5.inv;obtain ⟨qq,ra,oo,ys,zs,fa,fo,rfl,hq,ha,hr1,ho,hr2,rfl⟩:=id h2;refine xH (SqL.of hS5) hq (fun e3 e4=>?_) (fun e3=>?_)
    ·dsimp only at hN;rw [zq1 ⟨e3,e4⟩] at hN;refine ⟨.inl ⟨rfl,_,SqL.of hS5⟩,zAA _ (.ref qq) hS5 Jll ?_⟩;rwa [];have edl:(xs'++[V.ref qq]).dropLast=xs':=by simp
     rw [edl];have tt:TSame H5 (upd H5 S (.lst xs')):=TSame.updL hS5;have nS:S∉(ra::oo::(fa++fo))++f':=(zq34.mp nd).1;refine zAC _ (tt.seqT hq) rfl ?_;rwa [];refine ⟨.inl ⟨rfl,_,SqL.of ac⟩,fun u1 hu1 u2 hu2=>?_⟩;have sB:Same H (upd H5 S (.lst xs')):=sm5.updM (fr S Jll);have nSa:¬ra=S:=fun z=>nS (by rw [z];simp);have nSfa:S∉fa:=fun z=>nS (by simp [z]);have nSf:S∉f':=fun z=>nS (by simp [z]);have ha1:upd H5 S (.lst xs') ra=some (.lst ys):=by rw [ao nSa];exact ha
     have k1:=h1.keep tt (Kept.upd (o:=.lst xs') nSf);have r1:=hr1.keep tt (Kept.upd (o:=.lst xs') nSfa);have t1:=Same.upd (o:=.lst []) hu1;have t2:=t1.updN (o:=.tup [V.str "else",V.ref u1,V.str e.name,V.ref ra]) hu2;have nd3:(S::((ra::fa)++f')).Nodup:=by refine nd.sublist (.cons_cons _ (List.Sublist.append (.cons_cons _ (.cons _ (qO _ _))) (List.Sublist.refl _)))
     have sub3:∀c'∈S::((ra::fa)++f'),c'∈S::((ra::oo::(fa++fo))++f'):=fun c' hc'=>by simp only [List.cons_append,List.mem_cons,List.mem_append] at hc' ⊢;rcases hc' with z | z | z | z<;>simp [z]
     have no1:u1∉S::((ra::fa)++f'):=fun z=>by
      have ex:∃u,upd H5 S (.lst xs') u1=some u:=by
       by_cases zS:u1=S
       ·exact ⟨_,by rw [zS];exact ac⟩
       ·obtain ⟨u,hu⟩:=trk u1 (sub3 u1 z);exact ⟨u,by rw [ao zS];exact hu⟩
      obtain ⟨u,hu⟩:=ex;rw [hu1] at hu;cases hu
     refine zAC xs' (t2 _ _ ac) (by simp at lx l9;rw [zq8];omega) (hN _ _ ⟨zAB (uI (fo:=fa) (sB.trans t2) (t2 _ _ ac) (k1.keep t2.ts (Kept.of t2)) (Same.upd hu2 _ _ ac) (t2 _ _ ha1) (r1.same t2) (SqT.of ac) ?_ (fun c' hc'=>?_) (fun e' he'=>by have:=few e' (zq9 _ he');omega)) Jll (by simpa using l9),zAX _ _ _ _ _ _ _ _ rfl⟩)
     ·have n4:(u1::S::((ra::fa)++f')).Nodup:=zq34.mpr ⟨no1,nd3⟩;exact (List.Perm.nodup_iff (List.Perm.swap S u1 _)).mp n4
     ·by_cases z1:c'=u1
      ·rw [z1];exact sB.free hu1
      ·refine fr c' (sub3 c' ?_);simp only [List.cons_append,List.mem_cons] at hc' ⊢;rcases hc' with z | z | z
       ·exact .inl z
       ·exact absurd z z1
       ·exact .inr z
    ·dsimp only at hN;rw [zq0 e3] at hN;refine zAV H e e2 es' i (zAB ⟨sm5,zAE _ _ hS5 hK5 nd fr,few⟩ Jlk fun H6 k6=>hN _ _ ⟨zAB k6 ?_ ?_,zAX _ _ _ _ _ _ _ _ rfl⟩)
     ·rw [bO];omega
     ·rw [bO];simp at l9;omega
   ·have c1:¬(g % 12<2/\1<es.length):=fun z=>e1 ⟨z.1,Jlk⟩;rw [zq0 c1] at hN;refine aB (fun e2=>?_) (fun e2=>?_)
    ·rw [zq1 e2] at hN;refine JV (SqL.of hS5) hB5 (fun e3 e4 e5=>?_) (fun e3=>?_)
     ·have hne:¬ns=[]:=fun z=>by rw [z] at e5;simp at e5
      rw [zq1 ⟨e3,Jlk,hne⟩] at hN;refine ⟨.inl ⟨rfl,_,SqL.of hS5⟩,fun u1 hu1=>zAA _ _ (SqL.of ac) (Fm Jlk Jlk) fun u2 hu2=>?_⟩;have t1:=Same.upd (o:=.lst [V.str "if",V.str "while",V.str "if"]) hu1;have t2:=t1.updN (o:=.lst []) hu2;refine ⟨CDivB.small Jkm Jkm,zAC _ (.inl (t2.seq hB5)) (by rw [zq3];have:=zq56.mpr hne;omega) (zAA _ _ (t2.seq hB5) (by rw [zq3];exact ni hne) fun u3 hu3 u4 hu4=>?_)⟩;have t3:=t2.updN (o:=.lst []) hu3;have t4:=t3.updN (o:=.tup [V.str (kd3 (g % 12-2)).str,V.ref u2,V.str (jl (g / 12) ns),V.ref u3]) hu4;have m2:=t1.free hu2;have m3:=t2.free hu3;have n23:¬u2=u3:=fun z=>by rw [<- z,ac] at hu3;cases hu3
      have no2:u2∉S::f:=fun z=>by obtain ⟨u,hu⟩:=trk u2 z;rw [m2] at hu;cases hu
      have no3:u3∉S::f:=fun z=>by obtain ⟨u,hu⟩:=trk u3 z;rw [m3] at hu;cases hu
      refine zAC xs (t4 _ _ hS5) (by rw [zq8];omega) (hN _ _ ⟨zAB (uI (fo:=[]) (sm5.trans t4) (t4 _ _ hS5) (hK5.keep t4.ts (Kept.of t4)) (Same.upd hu4 _ _ (Same.upd hu3 _ _ ac)) (Same.upd hu4 _ _ ac) .nil (SqT.of ac) ?_ (fun c' hc'=>?_) (fun e he=>by have:=few e he;omega)) Jll (by simp;omega),zAX _ _ _ _ _ _ _ _ rfl⟩)
      ·have n1:=zq34.mp nd;simp only [List.cons_append,List.nil_append,List.nodup_cons,List.mem_cons,not_or] at no2 no3 ⊢;exact zAF (zAB (fun z=>no2.1 z.symm) (fun z=>no3.1 z.symm) n1.1) ⟨n23,no2.2⟩ no3.2 n1.2
      ·simp only [List.cons_append,List.nil_append,List.mem_cons] at hc';rcases hc' with z | z | z | z
       ·exact fr c' (by rw [z];simp)
       ·rw [z];exact sm5.free m2
       ·rw [z];exact sm5.free m3
       ·exact fr c' (zq9 _ z)
     ·have c3:¬(g % 12<5/\es.length<8/\¬ns=[]):=fun z=>e3 (zAB z.1 Jlk (by have:=zq56.mpr z.2.2;rw [zq3];omega));rw [zq0 c3] at hN;obtain ⟨e,es',rfl⟩:∃e es',es=e::es':=by
       match es,l1 with
       |e::es',_=>exact zAH e es' rfl
      refine ⟨CDivB.small Jkm Jkm,zAG ns hB5 w0 w8 fun p6 H6 s6 hp6 ht6=>?_⟩;refine zAX H xs e es' f ([]) (.deed (eQ (g / 12) ns w)) i (zAY (sm5.trans s6) (s6 _ _ hS5) (hK5.keep s6.ts (Kept.of s6)) (.deed j4 (SqT.of (by rw [w6];exact ht6))) (by rw [ix];exact nd) (fun c' hc'=>fr c' (by rw [ix] at hc';exact hc')) few Jlk fun H7 k7=>?_);exact hN _ _ ⟨zAB k7 (by simp [lO]) (by simpa [lO] using l9),zAX _ _ _ _ _ _ _ _ rfl⟩
    ·rw [zq0 e2] at hN;exact hN _ _ ⟨zAB ⟨sm5,zAE _ _ hS5 hK5 nd fr,fun e he=>by have:=few e he;omega⟩ l1 l9,zAX _ _ _ _ _ _ _ _ rfl⟩
  ·intro σ H' hv;obtain ⟨⟨ok,l1,l9⟩,o6,o7,o8,o9,o10,o11,o12,o13,rfl⟩:=hE _ _ _ hv;clear hv hI hE;rw [zq3,dZ] at *;exact ⟨zAG _ lcs ok l1 l9,zBC _ _ _ _ _ _ _ _ _ rfl⟩
 ·rintro σ H' ⟨⟨B,hB63,ok,l1,l9⟩,o5,o6,o7,o8,o9,o10,o11,o12,o13,rfl⟩;obtain ⟨μ,hμ⟩:∃μ:L2.St->Hp->Nat,μ=fun _ H'=>match H' S with | some (.lst xs)=>xs.length | _=>0:=⟨_,rfl⟩
  refine fZ (fun σ H'=>(∃es B,dz K H H' S es B/\B+es.length<=80/\1<=es.length/\bZ es=dW cs ns w most)/\∃o5 o6 o7 o8 o9 o10 o11 o12 o13,σ=[some (.ref a),some (.ref b),some (.int w),some (.int most),some (.ref S),o5,o6,o7,o8,o9,o10,o11,o12,o13])
   μ ⟨zAE _ B ok Jlk l1 rfl,zBC _ _ _ _ _ _ _ _ _ rfl⟩ ?_
  ·rintro σ H2 ⟨⟨es,B2,ok2,hb2,le2,hcl⟩,o5,o6,o7,o8,o9,o10,o11,o12,o13,rfl⟩;obtain ⟨sm,⟨xs,f,hSx,hK,nd,fr⟩,few⟩:=id ok2;have lx:=hK.length;rwa [i5];refine zn _ (.inl (SqL.of hSx)) (aB (fun e1=>?_) (fun e1=>?_))
   ·obtain ⟨e,e2,es',rfl⟩:∃e e2 es',es=e::e2::es':=by
     match es,(show 1<es.length by omega) with
     |e::e2::es',_=>exact zAJ e e2 es' rfl
    refine zn (fun σ H'=>((∃es B,dz K H H' S es B/\B+es.length<=80/\1<=es.length/\bZ es=dW cs ns w most)/\∃o5 o6 o7 o8 o9 o10 o11 o12 o13,σ=[some (.ref a),some (.ref b),some (.int w),some (.int most),some (.ref S),o5,o6,o7,o8,o9,o10,o11,o12,o13])/\μ σ H'<μ [some (.ref a),some (.ref b),some (.int w),some (.int most),some (.ref S),o5,o6,o7,o8,o9,o10,o11,o12,o13] H2) (fun σ' H' h=>zAC _ h.2 rfl h.1) ?_;refine zAV H e e2 es' B2 (zAB ok2 Jlk (fun H3 k3=>⟨⟨zAE _ (B2+1) k3 (by rw [bO];simp at hb2;omega) (by rw [bO];omega) ?_,zBC _ _ _ _ _ _ _ _ _ rfl⟩,?_⟩))
    ·rw [<- hcl];show bZ (e2.add (cy e)::es')=_;rw [bZ]
    ·obtain ⟨_,⟨xs3,f3,hS3,hK3,_,_⟩,_⟩:=k3;have l3:=hK3.length;rw [bO] at l3;rw [hμ];dsimp only;rw [hS3,hSx];simp at lx;show xs3.length<xs.length;omega
   ·obtain ⟨e,rfl⟩:∃e,es=[e]:=by
     match es,le2,(show es.length<=1 by omega) with
     | [e],_,_=>exact ⟨e,rfl⟩
    obtain ⟨xs',x,f',g',rfl,rfl,h1,h2⟩:=hK.inv
    cases h1
    obtain ⟨qq,ra,oo,ys,zs,fa,fo,rfl,hq,ha,hr1,ho,hr2,rfl⟩:=id h2;have hcl':e.rows=dW cs ns w most:=by rw [<- hcl,bZ]
    refine zAA _ _ (SqL.of hSx) rfl ?_;rwa [];refine zAA _ _ hq rfl (q ra ys fa H2 sm ha (by rw [<- hcl'];exact hr1) ?_ (fun c hc=>fr c ?_))
    ·exact nd.sublist (.cons _ (by rw [ix];exact .cons_cons _ (.cons _ (qO _ _))))
    ·simp only [List.append_nil,List.cons_append,List.mem_cons,List.mem_append] at hc ⊢;rcases hc with z | z<;>simp [z]
theorem ma{a b:Addr}{w most:Int}{H:Hp}{Q:VK}{E:XK}:kB K [.ref a,.ref b,.int w,.int most] H Q E=∃(cs:List Int)(ns:List Str),SqL K H a (cs.map V.int)/\cs.length<=63/\(∀z∈cs,Builtin.Int.intBits z<=2 ^ 20)/\SqL K H b (ns.map V.str)/\0<=w/\w<=8/\
 ∀p xs f H',Same H H'->H' p=some (.lst xs)->StmsV K H' xs (dW cs ns w most) f->(p::f).Nodup->(∀c∈p::f,H c=none)->Q (.ref p) H':=propext ⟨by rintro ⟨_,_,_,_,e,q⟩;cases e;exact q,fun q=>zAP _ _ _ _ rfl q⟩
def fW(K:W.Frag)(d:Nat):Sp:=fun vs H Q _=>∃(a:Addr)(xs:List V)(ss:List Stm)(f:List Addr),vs=[.ref a]/\H a=some (.lst xs)/\StmsV K H xs ss f/\bF ss<d/\aS ss<=1000/\
 ∀p ys g H',Same H H'->H' p=some (.lst ys)->StmsV K H' ys ss g->(p::g).Nodup->(∀c∈p::g,H c=none)->Q (.ref p) H'
def ie(K:W.Frag)(d:Nat):Sp:=fun vs H Q _=>∃(x:V)(s:Stm)(f:List Addr),vs=[x]/\StmV K H x s f/\s.deep<d/\s.many<=1000/\
 ∀y g H',Same H H'->StmV K H' y s g->g.Nodup->(∀c∈g,H c=none)->Q y H'
theorem zI{d:Nat}{x:V}{H:Hp}{Q:VK}{E:XK}:ie K d [x] H Q E=∃(s:Stm)(f:List Addr),StmV K H x s f/\s.deep<d/\s.many<=1000/\∀y g H',Same H H'->StmV K H' y s g->g.Nodup->(∀c∈g,H c=none)->Q y H':=
 propext ⟨by rintro ⟨_,s,f,e,q⟩;cases e;exact zAH s f q,by rintro ⟨s,f,q⟩;exact zAK x s f rfl q⟩
theorem c6{d:Nat}{a:Addr}{H:Hp}{Q:VK}{E:XK}:fW K d [.ref a] H Q E=∃(xs:List V)(ss:List Stm)(f:List Addr),H a=some (.lst xs)/\StmsV K H xs ss f/\bF ss<d/\aS ss<=1000/\
 ∀p ys g H',Same H H'->H' p=some (.lst ys)->StmsV K H' ys ss g->(p::g).Nodup->(∀c∈p::g,H c=none)->Q (.ref p) H':=
 propext ⟨by rintro ⟨_,xs,ss,f,e,q⟩;cases e;exact zAJ xs ss f q,by rintro ⟨xs,ss,f,q⟩;exact zAP a xs ss f rfl q⟩
theorem iZ(T:Txt K mg t)(d:Nat)(G_111:FnOk P w K mg base CX0 (2 * d+1) t.f_111 t.e_111 ["row"] (ie K d)):FnOk P w K mg base CX0 (2 * d+2) t.f_110 t.e_110 ["rows"] (fW K d):=by
 refine T.d_110.F.ok Hu ∅ ?_;rintro cdv A outer s H vs Q E hr ⟨a,xs,ss,f,rfl,ha,hx,hd,hl,q⟩;refine ⟨_,
   (XSs.h
   (ak
    (aw (bI (tns:=["row"]) (cns:=[]) (ci:=[]) rfl (CompSc.of Jkl) (aY (yqv 0 vl)) (fun _=>(aA (i:=1) (show List.Nodup [(".0":Str),("row":Str)] by decide +kernel) rfl ll (Or.inr Jkl))) (fun _=>bY) (fun _=>(au T.d_111 G_111 hr.m (aa (yqv 1 vl) ae) gl)))))),?_⟩
 rw [show aO _ [V.ref a]=[some (.ref a)] from rfl];rwa [zI];refine ⟨⟨_,SqL.of ha⟩,fun acc hacc bk=>?_⟩;have lx:=hx.length;have lm:=pA ss;refine d6 (xs:=xs) (fun i ys H'=>Same H H'/\H' acc=some (.lst ys)/\ys.length=i/\∃g,StmsV K H' ys (ss.take i) g/\(acc::g).Nodup/\∀c∈acc::g,H c=none) ?_ ?_ ?_ ?_
 ·exact zAF (Same.upd hacc) ac rfl (zAC ([]) .nil Jll (fun c hc=>by rw [zq10.mp hc];exact hacc))
 ·intro i ys H' _ h;exact SqL.of (h.1 _ _ ha)
 ·rintro i x ys H' os hxi ho ⟨sm,hacc2,ly,g,hg,nd,fr⟩
  match os,ho with
  | [o],_=>
   rwa [zI];refine ⟨zn ([some x]) rfl rfl,?_⟩;rw [zq1 trivial];obtain ⟨s,f',hs,hsv,_⟩:=hx.get hxi;have hi:i<ss.length:=(zq11.mp hs).1;have hse:ss[i]=s:=(zq11.mp hs).2;have hds:=lI (bD hs);refine zAE s f' (hsv.same sm) Jlk (by have:=yz (bD hs);omega) fun y g2 H2 s2 hy nd2 fr2=>?_;have na:acc∉g:=(zq34.mp nd).1;have na2:acc∉g2:=fun z=>by rw [fr2 acc z] at hacc2;cases hacc2
   have tt:TSame H2 (upd H2 acc (.lst (ys++[y]))):=TSame.updL (s2 _ _ hacc2);refine zAQ (s2 _ _ hacc2) (by rw [zq8];omega) ((sm.trans s2).updM hacc) ac (by simp [ly]) (zAC (g++g2) ?_ ?_ fun c hc=>?_)
   ·rw [dy hi,hse];exact ((hg.same s2).keep tt (Kept.upd na)).snoc (hy.keep tt (Kept.upd na2))
   ·refine zq34.mpr ⟨fun z=>(zq18.mp z).elim na na2,lT (zq34.mp nd).2 nd2 fun c h1 h2=>?_⟩;obtain ⟨zs,hz⟩:=hg.tracked c h1;rw [fr2 c h2] at hz;cases hz
   ·rcases zq12.mp hc with z | z
    ·rw [z];exact hacc
    ·rcases zq18.mp z with z | z
     ·exact fr c (zq9 _ z)
     ·exact sm.free (fr2 c z)
 ·rintro ys H' ⟨sm,hacc2,ly,g,hg,nd,fr⟩;rw [lx,dZ] at hg;exact q acc ys g H' sm hacc2 hg nd fr
theorem vX(T:Txt K mg t)(d:Nat)(G_110:FnOk P w K mg base CX0 (2 * d+2) t.f_110 t.e_110 ["rows"] (fW K d)):FnOk P w K mg base CX0 (2 * (d+1)+1) t.f_111 t.e_111 ["row"] (ie K (d+1)):=by
 refine T.d_111.F.ok Hv ∅ ?_;rintro cdv A outer s H vs Q E hr ⟨x,s,f,rfl,hx,hd,hm,q⟩;refine ⟨_,
   (XSs.h
   (ai
    (aH (ar aT (ap ay (yqv 0 vl) aj) aC (az _))
     (ak
      (aw (aG (aa aC (aa (ap ay (yqv 0 vl) aj) (aa (au T.d_110 G_110 hr.m (aa (ap ay (yqv 0 vl) aj) ae) gl) (aa (au T.d_110 G_110 hr.m (aa (ap ay (yqv 0 vl) aj) ae) gl) ae)))))))
     aD)
   (ai
    (aH (ar aT (ap ay (yqv 0 vl) aj) aC (az _))
     (ak
      (aw (aG (aa aC (aa (ap ay (yqv 0 vl) aj) (aa (au T.d_110 G_110 hr.m (aa (ap ay (yqv 0 vl) aj) ae) gl) ae))))))
     aD)
   (ak
    (aw (yqv 0 vl)))))),?_⟩
 rw [show aO _ [x]=[some x] from rfl]
 cases hx with
 | @deed q0 dd hf hq=>
  rwa [c6];refine u7 hf hq Jkk Jkk Jkk (zn _ rfl ?_);rw [zq0 bw];refine u7 hf hq Jkk Jkk Jkk (zn _ rfl ?_);rw [zq0 bw];exact q _ [] H (Same.refl H) (.deed hf hq) Jll (fun c hc=>by cases hc)
 | @ifs q0 a b n xs ys ones others f g hq ha hb h1 h2=>
  simp only [Stm.deep,Stm.many] at hd hm;rwa [c6];refine zAA _ _ hq rfl ?_;rwa [c6];refine aB (fun _=>zAA _ _ hq rfl (zAA _ _ hq rfl ?_)) (fun z=>absurd trivial z);rwa [c6];refine zAL xs ones f ha h1 Jlk Jlk fun p1 zs1 g1 H1 s1 e1 k1 nd1 fr1=>zAA _ _ (s1.seqT hq) rfl ?_;rwa [c6];refine zAL ys others g (s1 _ _ hb) (h2.same s1) Jlk Jlk fun p2 zs2 g2 H2 s2 e2 k2 nd2 fr2 p3 hp3=>?_;have s3:=Same.upd (o:=.tup [V.str "if",V.str n,V.ref p1,V.ref p2]) hp3;have s12:=s1.trans s2;refine q _ (p1::p2::(g1++g2)) _ (s12.trans s3) (.ifs (SqT.of ac) (s3 _ _ (s2 _ _ e1)) (s3 _ _ e2) ((k1.same s2).same s3) (k2.same s3)) ?_ (fun c hc=>?_)
  ·have dj:∀c∈p1::g1,c∉p2::g2:=fun c h1 h2=>by
    have ex:∃u,H1 c=some u:=by
     rcases zq12.mp h1 with z | z
     ·exact ⟨_,by rw [z];exact e1⟩
     ·obtain ⟨u,hu⟩:=k1.tracked c z;exact ⟨_,hu⟩
    obtain ⟨u,hu⟩:=ex;rw [fr2 c h2] at hu;cases hu
   have n5:=lT nd1 nd2 dj;refine (List.Perm.nodup_iff ?_).mp n5;rw [Bz];exact .cons _ List.perm_middle
  ·rcases zq12.mp hc with z | z
   ·rw [z];exact fr1 p1 Jll
   rcases zq12.mp z with z | z
   ·rw [z];exact s1.free (fr2 p2 Jll)
   rcases zq18.mp z with z | z
   ·exact fr1 c (zq9 _ z)
   ·exact s1.free (fr2 c (zq9 _ z))
 | @whl q0 a n xs rows f hq ha h1=>simp only [Stm.deep,Stm.many] at hd hm;rwa [c6];refine zAA _ _ hq rfl ?_;rwa [c6];refine aB (fun z=>absurd z Jkk) (fun _=>zAA _ _ hq rfl ?_);rwa [c6];refine aB (fun _=>zAA _ _ hq rfl (zAA _ _ hq rfl ?_)) (fun z=>absurd trivial z);rwa [c6];refine zAL xs rows f ha h1 Jlk Jlk fun p1 zs1 g1 H1 s1 e1 k1 nd1 fr1 p3 hp3=>?_;have s3:=Same.upd (o:=.tup [V.str "while",V.str n,V.ref p1]) hp3;exact q _ (p1::g1) _ (s1.trans s3) (.whl (SqT.of ac) (s3 _ _ e1) (k1.same s3)) nd1 fr1
theorem lW(T:Txt K mg t):∀d,FnOk P w K mg base CX0 (2 * d+1) t.f_111 t.e_111 ["row"] (ie K d)/\FnOk P w K mg base CX0 (2 * d+2) t.f_110 t.e_110 ["rows"] (fW K d)
 |0=>by
  have h0:FnOk P w K mg base CX0 (2 * 0+1) t.f_111 t.e_111 ["row"] (ie K 0):=⟨fun vs H Q E h=>by obtain ⟨_,_,_,_,_,h,_⟩:=h;omega,fun _ _ _ _ _ _ _ _ _ _ _ _ _ h=>by obtain ⟨_,_,_,_,_,h,_⟩:=h;omega⟩
  exact ⟨h0,iZ T 0 h0⟩
 |d+1=>by have h1:=vX T d (lW T d).2;exact ⟨h1,iZ T (d+1) h1⟩
def tL(K:W.Frag)(C:Addr)(d:Nat)(p:Addr)(a0:Addr)(b0:Addr)(r0:Addr)(wd:Int)(H:Hp)(Q:VK):Prop:=∃(dx:Addr)(ins:List Str)(oth:List Str)(xs:List V)(ss:List Stm)(f:List Addr),H p=some (.ins C dx [])/\
 H a0=some (.lst (ins.map V.str))/\H b0=some (.lst (oth.map V.str))/\H r0=some (.lst xs)/\StmsV K H xs ss f/\bF ss<d/\aS ss<=1000/\ins.length<=1000/\oth.length<=1000/\
 ∀a b r ys g H',SameX p H H'->ProgAt K C H' p wd ins oth ss a b r ys g->(a::b::r::g).Nodup->(∀c∈a::b::r::g,H c=none)->Q .non H'
def v8(K:W.Frag)(C:Addr)(d:Nat):Sp:=fun vs H Q _=>∃(p:Addr)(a0:Addr)(b0:Addr)(r0:Addr)(wd:Int),vs=[.ref p,.int wd,.ref a0,.ref b0,.ref r0]/\tL K C d p a0 b0 r0 wd H Q
theorem Cp(T:Txt K mg t)(d:Nat):FnOk P w K mg base CX0 (2 * d+3) t.f_109 t.e_109 ["self","width","ins","boxes","rows"] (v8 K t.C_Program d):=by
 have G_110:=(@lW P w K mg base t T d).2;refine T.d_109.F.ok Ht ∅ ?_;rintro cdv A outer s H vs Q E hr ⟨p,a0,b0,r0,wd,rfl,dx,ins,oth,xs,ss,f,hp,ha,hb,hr0,hx,hd,hm,hi,ho,q⟩;refine ⟨_,
   (XSs.h
   (ai
    (cn (yqv 0 vl) (yqv 1 vl) rfl)
   (ai
    (cn (yqv 0 vl) (bA cQ gl T.z_list boot_list (aa (yqv 2 vl) ae)) rfl)
   (ai
    (cn (yqv 0 vl) (av f6 (bA cQ gl T.z_list boot_list (aa (yqv 2 vl) ae)) (bA cQ gl T.z_list boot_list (aa (yqv 3 vl) ae))) rfl)
   (ak
    (cn (yqv 0 vl) (au T.d_110 G_110 hr.m (aa (yqv 4 vl) ae) gl) rfl)))))),?_⟩
 rw [show aO _ [V.ref p,V.int wd,V.ref a0,V.ref b0,V.ref r0]=[some (.ref p),some (.int wd),some (.ref a0),some (.ref b0),some (.ref r0)] from rfl];rwa [c6];have na:a0≠p:=bL ha hp (by intro z;cases z);have nb:b0≠p:=bL hb hp (by intro z;cases z);have nr:r0≠p:=bL hr0 hp (by intro z;cases z);refine gD hp T.c_Program.cl T.n_Program_width Jll ?_;rw [cz Jlm,xA];obtain ⟨H1,hH1⟩:∃H1,H1=upd H p (.ins t.C_Program dx [("width",V.int wd)]):=⟨_,rfl⟩
 rw [<- hH1];have e1:H1 p=some (.ins t.C_Program dx [("width",V.int wd)]):=by rw [hH1];exact ac
 have s1:SameX p H H1:=by rw [hH1];exact SameX.upd
 have t1:TSame H H1:=by rw [hH1];exact TSame.updI hp
 rwa [c6];refine zn _ (.inl (SqL.of (s1 _ _ ha na))) fun l1 hl1=>?_;have np1:p≠l1:=am e1 hl1;refine gD (by rw [ao np1];exact e1) T.c_Program.cl T.n_Program_ins Jll ?_;rw [cz Jkl];obtain ⟨H2,hH2⟩:∃H2,H2=upd (upd H1 l1 (.lst (ins.map V.str))) p (.ins t.C_Program dx ([(("width":Str),V.int wd)]++[(("ins":Str),V.ref l1)])):=⟨_,rfl⟩
 rw [<- hH2];have e2:H2 p=some (.ins t.C_Program dx ([(("width":Str),V.int wd)]++[(("ins":Str),V.ref l1)])):=by rw [hH2];exact ac
 have s2:SameX p H1 H2:=by rw [hH2];exact (SameX.of (Same.upd hl1)).trans SameX.upd
 have k2:H2 l1=some (.lst (ins.map V.str)):=by rw [hH2,ao np1.symm];exact ac
 have t2:TSame H1 H2:=by rw [hH2];exact (Same.upd hl1).ts.trans (TSame.updI (by rw [ao np1];exact e1))
 have s02:=s1.trans s2;rwa [c6];refine zn _ (.inl (SqL.of (s02 _ _ ha na))) fun l2 hl2=>?_;have s3:=Same.upd (o:=.lst (ins.map V.str)) hl2;refine zn _ (.inl (SqL.of (s3 _ _ (s02 _ _ hb nb)))) fun l3 hl3=>?_;have s4:=s3.trans (Same.upd (o:=.lst (oth.map V.str)) hl3);refine zAE _ _ (by rw [ao (am ac hl3)];exact ac) ac (by rw [zq8];simp only [List.length_map];omega) fun l4 hl4=>?_;have s5:=s4.trans (Same.upd (o:=.lst (ins.map V.str++oth.map V.str)) hl4);refine gD (s5 _ _ e2) T.c_Program.cl T.n_Program_boxes Jll ?_;rw [cz Jkl];have np4:p≠l4:=am (s4 _ _ e2) hl4;obtain ⟨H3,hH3⟩:∃H3,H3=upd (upd (upd (upd H2 l2 (.lst (ins.map V.str))) l3 (.lst (oth.map V.str))) l4 (.lst (ins.map V.str++oth.map V.str))) p (.ins t.C_Program dx ([(("width":Str),V.int wd)]++[(("ins":Str),V.ref l1)]++[(("boxes":Str),V.ref l4)])):=⟨_,rfl⟩
 rw [<- hH3];have e3:H3 p=some (.ins t.C_Program dx ([(("width":Str),V.int wd)]++[(("ins":Str),V.ref l1)]++[(("boxes":Str),V.ref l4)])):=by rw [hH3];exact ac
 have s23:SameX p H2 H3:=by rw [hH3];exact (SameX.of s5).trans SameX.upd
 have k4:H3 l4=some (.lst (ins.map V.str++oth.map V.str)):=by rw [hH3,ao np4.symm];exact ac
 have t3:TSame H2 H3:=by rw [hH3];exact s5.ts.trans (TSame.updI (s5 _ _ e2))
 have s03:=s02.trans s23;rwa [c6];have pf:p∉f:=fun z=>by obtain ⟨zs,hz⟩:=hx.tracked p z;rw [hp] at hz;cases hz
 refine zAL xs ss f (s03 _ _ hr0 nr) (hx.keep ((t1.trans t2).trans t3) (fun c hc o e=>s03 c o e (fun z=>pf (by rw [<- z];exact hc)))) hd hm fun r ys g H4 s34 e4 k5 nd fr=>?_;refine gD (s34 _ _ e3) T.c_Program.cl T.n_Program_rows Jll ?_;rw [cz Jkl];have pg:p∉r::g:=fun z=>by rw [fr p z] at e3;cases e3
 have npr:r≠p:=fun z=>pg (by rw [z];exact cV);have nl1:l1≠p:=np1.symm;have nl4:l4≠p:=np4.symm;have n14:l1≠l4:=am (s4 _ _ k2) hl4;have f1:H l1=none:=s1.free e1 hl1;have f4:H l4=none:=s02.free e2 (s4.free hl4);have k3:H3 l1=some (.lst (ins.map V.str)):=s23 _ _ k2 nl1;refine q l1 l4 r ys g _ (s03.trans ((SameX.of s34).trans SameX.upd)) ⟨⟨dx,ac⟩,?_,?_,?_,?_⟩ ?_ ?_
 ·rw [ao nl1];exact s34 _ _ k3
 ·rw [ao nl4,cg];exact s34 _ _ k4
 ·rw [ao npr];exact e4
 ·exact k5.keep (TSame.updI (s34 _ _ e3)) (Kept.upd fun z=>pg (zq9 _ z))
 ·have a1:l1∉r::g:=fun z=>by rw [fr l1 z] at k3;cases k3
  have a4:l4∉r::g:=fun z=>by rw [fr l4 z] at k4;cases k4
  refine zq34.mpr ⟨fun z=>?_,zq34.mpr ⟨a4,nd⟩⟩;rcases zq12.mp z with z | z
  ·exact n14 z
  ·exact a1 z
 ·intro c hc;rcases zq12.mp hc with z | hc
  ·rw [z];exact f1
  rcases zq12.mp hc with z | hc
  ·rw [z];exact f4
  exact s03.free e3 (fr c hc)
variable {E:XK} {H H':Hp} {Q:VK} {p:Addr} {x:V}
def dC:FZ.Ed->List V
 | .stop=>[.str "stop"]
 | .go i=>[.str "go",.int i]
 | .choose n i j=>[.str "choose",.str n,.int i,.int j]
def DeedV1(K:W.Frag)(H:Hp)(x:V)(d:Deed):Prop:=∃q,x=.ref q/\SqT K H q d.vs/\d.fine
def BlkV(K:W.Frag)(N:Addr->Prop)(H:Hp)(bl:Addr)(x:V)(b:FZ.Blk):Prop:=∃q a e vs,x=.ref q/\H q=some (.tup [.ref a,.ref e])/\H a=some (.lst vs)/\Paired (DeedV1 K H) vs b.ds/\H e=some (.tup (dC b.ed))/\a≠bl/\N a
theorem DeedV1.ts{K:W.Frag}{d:Deed}(t:TSame H H')(h:DeedV1 K H x d):DeedV1 K H' x d:=let ⟨q,e,z,f⟩:=h;(zAC q e (t.seqT z) f)
theorem SameX.tsL2{ys:List V}(s:SameX p H H')(h:H p=some (.lst ys)):TSame H H':=
 ⟨fun c xs e=>s c _ e (fun z=>by rw [z,h] at e;cases e),fun c o u e=>s c _ e (fun z=>by rw [z,h] at e;cases e)⟩
theorem BlkV.sx{K:W.Frag}{N:Addr->Prop}{bl:Addr}{b:FZ.Blk}{ys:List V}(h:BlkV K N H bl x b)(s:SameX bl H H')(hb:H bl=some (.lst ys)):BlkV K N H' bl x b:=by obtain ⟨q,a,e,vs,ex,h1,h2,h3,h4,h5⟩:=h;have tt:=SameX.tsL2 s hb;exact zAT q a e vs ex (s _ _ h1 (fun z=>by rw [z,hb] at h1;cases h1)) (s _ _ h2 h5.1) (FL.Paired.imp h3 fun y _ d _ z=>z.ts tt) (s _ _ h4 (fun z=>by rw [z,hb] at h4;cases h4)) h5
structure PartAt(K:W.Frag)(C:Addr)(N:Addr->Prop)(H:Hp)(p bl:Addr)(B:List FZ.Blk):Prop where
 ob:∃dx,H p=some (.ins C dx [("blocks",.ref bl)])
 nw:∀c,H c=none->N c
 bs:∃xs,H bl=some (.lst xs)/\Paired (BlkV K N H bl) xs B
theorem PartAt.ne{K:W.Frag}{C:Addr}{N:Addr->Prop}{bl:Addr}{B:List FZ.Blk}(h:PartAt K C N H p bl B):p≠bl:=fun z=>by obtain ⟨dx,e⟩:=h.ob;obtain ⟨xs,e2,_⟩:=h.bs;rw [z,e2] at e;cases e
theorem PartAt.same{K:W.Frag}{C:Addr}{N:Addr->Prop}{bl:Addr}{B:List FZ.Blk}(h:PartAt K C N H p bl B)(s:Same H H'):PartAt K C N H' p bl B:=by obtain ⟨xs,e,q⟩:=h.bs;exact ⟨let ⟨dx,e⟩:=h.ob;⟨dx,s _ _ e⟩,fun c hc=>h.nw c (s.free hc),xs,s _ _ e,FL.Paired.imp q fun x _ b _ z=>z.sx (SameX.of s) e⟩
theorem BlkV.same{K:W.Frag}{N:Addr->Prop}{bl:Addr}{b:FZ.Blk}(h:BlkV K N H bl x b)(s:Same H H'):BlkV K N H' bl x b:=by obtain ⟨q,a,e,vs,ex,h1,h2,h3,h4,h5⟩:=h;exact zAT q a e vs ex (s _ _ h1) (s _ _ h2) (FL.Paired.imp h3 fun y _ d _ z=>z.ts s.ts) (s _ _ h4) h5
def rp(K:W.Frag)(C:Addr)(p:Addr)(x:V)(H:Hp)(Q:VK):Prop:=∃(N:Addr->Prop)(bl:Addr)(B:List FZ.Blk)(b:FZ.Blk),PartAt K C N H p bl B/\BlkV K N H bl x b/\B.length<5000/\∀H',SameX bl H H'->PartAt K C N H' p bl (B++[b])->Q (.int B.length) H'
def Am(K:W.Frag)(C:Addr):Sp:=fun vs H Q _=>∃(p:Addr)(x:V),vs=[.ref p,x]/\rp K C p x H Q
def tM(K:W.Frag)(C:Addr)(p:Addr)(H:Hp)(Q:VK):Prop:=∃(N:Addr->Prop)(bl:Addr)(B:List FZ.Blk),PartAt K C N H p bl B/\B.length<5000/\∀H',SameX bl H H'->PartAt K C N H' p bl (B++[⟨[],.stop⟩])->Q (.int B.length) H'
def vd(K:W.Frag)(C:Addr):Sp:=fun vs H Q _=>∃p:Addr,vs=[.ref p]/\tM K C p H Q
def xT(K:W.Frag)(C:Addr)(p:Addr)(x:V)(H:Hp)(Q:VK):Prop:=∃(N:Addr->Prop)(bl:Addr)(B:List FZ.Blk)(b:FZ.Blk),PartAt K C N H p bl B/\BlkV K N H bl x b/\B.length<5000/\∀H',SameX bl H H'->PartAt K C N H' p bl (FZ.aF b B).2->Q (.int (FZ.aF b B).1) H'
def Ap(K:W.Frag)(C:Addr):Sp:=fun vs H Q _=>∃(p:Addr)(x:V),vs=[.ref p,x]/\xT K C p x H Q
theorem DG{C:Addr}:Am K C [.ref p,x] H Q E=rp K C p x H Q:=propext ⟨by rintro ⟨_,_,e,q⟩;cases e;exact q,fun q=>zAD _ _ rfl q⟩
theorem nj{C:Addr}:vd K C [.ref p] H Q E=tM K C p H Q:=propext ⟨by rintro ⟨_,e,q⟩;cases e;exact q,fun q=>zn _ rfl q⟩
theorem i9{C:Addr}:Ap K C [.ref p,x] H Q E=xT K C p x H Q:=propext ⟨by rintro ⟨_,_,e,q⟩;cases e;exact q,fun q=>zAD _ _ rfl q⟩
theorem di{a c:Addr}{o:HO}(h:upd H a o c=none):H c=none:=by
 unfold upd at h
 split at h
 ·cases h
 ·exact h
theorem yW(T:Txt K mg t):FnOk P w K mg base CX0 1 t.f_117 t.e_117 ["self","block"] (Am K t.C_Parting):=by
 refine T.d_117.F.ok Hz ∅ ?_;rintro cdv A outer s H vs Q E hr ⟨p,x,rfl,N,bl,B,b,hP,hb,hl,q⟩;obtain ⟨dx,ob⟩:=hP.ob;obtain ⟨xs,hbl,hxs⟩:=hP.bs;have lx:=hxs.length;refine ⟨_,
   (XSs.h
   (ai
    (aR (c7 PySem.F.plainAttrs_list PySem.F.slot_list_append PySem.F.type_list_append aZ (b9 (yqv 0 vl) rfl) (aa (yqv 1 vl) ae)))
   (ak
    (aw (av g9 (aL aM gl T.z_len PySem.boot_len (aa (b9 (yqv 0 vl) rfl) ae)) aj))))),?_⟩
 rw [show aO _ [V.ref p,x]=[some (.ref p),some x] from rfl];rwa [];refine df ob T.c_Parting.cl T.n_Parting_blocks rfl ?_;rwa [];have sx:SameX bl H (upd H bl (.lst (xs++[x]))):=SameX.upd;refine ⟨.inl ⟨rfl,_,SqL.of hbl⟩,zAC _ hbl (by rw [zq8];omega) ?_⟩;refine df (sx _ _ ob hP.ne) T.c_Parting.cl T.n_Parting_blocks rfl ?_;rwa [];refine zn _ (.inl (SqL.of ac)) ?_;have z:=q _ sx ⟨⟨dx,sx _ _ ob hP.ne⟩,fun c hc=>hP.nw c (di hc),xs++[x],ac,FL.Paired.snoc (hb.sx sx hbl) (FL.Paired.imp hxs fun y _ c _ h=>h.sx sx hbl)⟩;rw [show (((xs++[x]).length:Nat):Int)-1=(B.length:Int) by rw [zq7,bV,lx];omega];exact z
theorem fS{N:Addr->Prop}{H:Hp}{bl a e q:Addr}{ed:FZ.Ed}{vs:List V}{ds:List Deed}{ys:List V}(hbl:H bl=some (.lst ys))(hn:N a)(ha:H a=none)(hv:Paired (DeedV1 K H) vs ds)(he:upd H a (.lst vs) e=none)(hq:upd (upd H a (.lst vs)) e (.tup (dC ed)) q=none):
  Same H (upd (upd (upd H a (.lst vs)) e (.tup (dC ed))) q (.tup [.ref a,.ref e]))/\BlkV K N (upd (upd (upd H a (.lst vs)) e (.tup (dC ed))) q (.tup [.ref a,.ref e])) bl (.ref q) ⟨ds,ed⟩:=by
 have t1:=Same.upd (o:=.lst vs) ha;have t2:=Same.upd (o:=.tup (dC ed)) he;have t3:=Same.upd (o:=.tup [V.ref a,V.ref e]) hq;have s:=(t1.trans t2).trans t3;exact ⟨s,zBA q a e vs rfl ac (t3 _ _ (t2 _ _ ac)) (FL.Paired.imp hv fun y _ d _ z=>z.ts s.ts) (t3 _ _ ac) (am hbl ha).symm hn⟩
theorem uB(T:Txt K mg t):FnOk P w K mg base CX0 2 t.f_116 t.e_116 ["self"] (vd K t.C_Parting):=by
 have G_117:=@yW P w K mg base t T;refine T.d_116.F.ok Hy ∅ ?_;rintro cdv A outer s H vs Q E hr ⟨p,rfl,N,bl,B,hP,hl,q⟩;obtain ⟨dx,ob⟩:=hP.ob;obtain ⟨xs,hbl,hxs⟩:=hP.bs;refine ⟨_,
   (XSs.h
   (ak
    (aw (aW T.c_Parting.cl T.d_117 G_117 hr.m (yqv 0 vl) (aa (aG (aa (aJ ae) (aa (aG (aa aC ae)) ae))) ae))))),?_⟩
 rw [show aO _ [V.ref p]=[some (.ref p)] from rfl];rwa [DG];refine bP ob rfl ?_;intro a ha e he q0 hq0;obtain ⟨sm,hb⟩:=fS (K:=K) (ed:=.stop) (ds:=[]) hbl (hP.nw _ ha) ha .nil he hq0;exact zAU N bl B _ (hP.same sm) hb hl fun H' sx hP'=>q H' ((SameX.of sm).trans sx) hP'
theorem A4{n:Nat}{a b:Addr}{vs:List V}(ha:H a=some (.lst vs))(hb:H b=some (.lst [])):Rq K H n (.ref a) (.ref b) (decide (vs=[])):=by
 cases vs with
 |nil=>
  have z:=Rq.lists (n:=n) (fun _=>true) (SqL.of (K:=K) ha) (SqL.of hb) rfl fun j x y hx _=>by simp at hx
  exact z
 |cons x r=>rw [bC (by intro z;cases z)];exact .lens (SqL.of ha) (SqL.of hb) Jll
theorem rY(T:Txt K mg t):FnOk P w K mg base CX0 2 t.f_118 t.e_118 ["self","block"] (Ap K t.C_Parting):=by
 have G_117:=@yW P w K mg base t T;refine T.d_118.F.ok HA ∅ ?_;rintro cdv A outer s H vs Q E hr ⟨p,x,rfl,N,bl,B,b,hP,hb,hl,q⟩;obtain ⟨dx,ob⟩:=hP.ob;obtain ⟨qb,a,e,vs,rfl,h1,h2,h3,h4,h5⟩:=id hb;refine ⟨_,
   (XSs.h
   (ai
    (aH (cE (cK (ar (z8 (n:=0) (oX Jkm hr)) (ap ay (yqv 1 vl) aj) (aJ ae) (az _)) (cB (ar aT (ap ay (ap ay (yqv 1 vl) aj) aj) aC (az _)))))
     (ak
      (aw (ap ay (ap ay (yqv 1 vl) aj) aj)))
     aD)
   (ak
    (aw (aW T.c_Parting.cl T.d_117 G_117 hr.m (yqv 0 vl) (aa (yqv 1 vl) ae)))))),?_⟩
 rw [show aO _ [V.ref p,V.ref qb]=[some (.ref p),some (.ref qb)] from rfl];rwa [DG];refine zAA _ _ (SqT.of h1) rfl fun p0 hp0=>?_;have t0:=Same.upd (o:=.lst []) hp0;refine zn _ (A4 (t0 _ _ h2) ac) (zn _ rfl ?_);have lv:=h3.length;have num:(FZ.aF b B)=(B.length,B++[b])->mz t.C_Parting (Str.ofString "numbered") (V.ref p) (upd H p0 (HO.lst [])) (rp K t.C_Parting p (V.ref qb) (upd H p0 (HO.lst [])) Q):=fun ew=>by refine bP (t0 _ _ ob) rfl (zAU N bl B b (hP.same t0) (hb.same t0) hl fun H' sx hP'=>?_);rw [ew] at q;exact q H' ((SameX.of t0).trans sx) hP'
 obtain ⟨ds,ed⟩:=b
 cases ds with
 |cons d r=>
  have hne:¬vs=[]:=fun z=>by rw [z] at lv;simp at lv
  rw [bC hne,zq0 bw];exact num rfl
 |nil=>
  have hnil:vs=[]:=zq54.mp lv;rw [cf hnil,zq1 rfl];have h40:=t0 _ _ h4;refine zAA _ _ (SqT.of (t0 _ _ h1)) rfl ?_
  cases ed with
  |stop=>
   rwa [];refine zAE _ _ (SqT.of h40) rfl rfl (zn _ rfl ?_);rw [bC (by intro z;exact absurd (V.str.inj z) Jkk),zq0 bw];exact num rfl
  |go i=>
   rwa [];refine zAE _ _ (SqT.of h40) rfl rfl (zn _ rfl ?_);rw [cf rfl,zq1 rfl];refine zAA _ _ (SqT.of (t0 _ _ h1)) rfl ?_;rwa [];exact zAA _ _ (SqT.of h40) rfl (q _ (SameX.of t0) (hP.same t0))
  |choose n i j=>rwa [];refine zAE _ _ (SqT.of h40) rfl rfl (zn _ rfl ?_);rw [bC (by intro z;exact absurd (V.str.inj z) Jkk),zq0 bw];exact num rfl
variable {H:Hp} {f:List Addr} {i:Nat} {ss:List Stm} {x:V}
def tO(K:W.Frag)(C:Addr)(d:Nat)(p a:Addr)(x:V)(H:Hp)(Q:VK):Prop:=∃(N:Addr->Prop)(bl:Addr)(B:List FZ.Blk)(b:FZ.Blk)(rs:List V)(ss:List Stm)(f:List Addr),PartAt K C N H p bl B/\BlkV K N H bl x b/\H a=some (.lst rs)/\StmsV K H rs ss f/\a≠bl/\bl∉f/\bF ss<d/\B.length+3 * aS ss<4000/\b.ds.length<=8/\
 ∀y H',SameX bl H H'->PartAt K C N H' p bl (FZ.aK ss b B).2->BlkV K N H' bl y (FZ.aK ss b B).1->(FZ.aK ss b B).1.ds.length<=8->Q y H'
def ig(K:W.Frag)(C:Addr)(d:Nat):Sp:=fun vs H Q _=>∃(p a:Addr)(x:V),vs=[.ref p,.ref a,x]/\tO K C d p a x H Q
def tT(K:W.Frag)(C:Addr)(d:Nat)(ok:Stm->Prop)(p:Addr)(r x:V)(H:Hp)(Q:VK):Prop:=∃(N:Addr->Prop)(bl:Addr)(B:List FZ.Blk)(b:FZ.Blk)(st:Stm)(f:List Addr),PartAt K C N H p bl B/\BlkV K N H bl x b/\StmV K H r st f/\ok st/\bl∉f/\st.deep<d/\B.length+3 * st.many<4000/\b.ds.length<=8/\
 ∀y H',SameX bl H H'->PartAt K C N H' p bl (FZ.bW st b B).2->BlkV K N H' bl y (FZ.bW st b B).1->(FZ.bW st b B).1.ds.length<=8->Q y H'
def dH(K:W.Frag)(C:Addr)(d:Nat)(ok:Stm->Prop):Sp:=fun vs H Q _=>∃(p:Addr)(r x:V),vs=[.ref p,r,x]/\tT K C d ok p r x H Q
def Iy:Stm->Prop
 | .ifs _ _ _=>True
 |_=>False
def Iz:Stm->Prop
 | .whl _ _=>True
 |_=>False
theorem fB{C p a:Addr}{d:Nat}{Q:VK}{E:XK}:ig K C d [.ref p,.ref a,x] H Q E=tO K C d p a x H Q:=propext ⟨by rintro ⟨_,_,_,e,q⟩;cases e;exact q,fun q=>zAK _ _ _ rfl q⟩
theorem f7{C p:Addr}{d:Nat}{ok:Stm->Prop}{r:V}{Q:VK}{E:XK}:dH K C d ok [.ref p,r,x] H Q E=tT K C d ok p r x H Q:=propext ⟨by rintro ⟨_,_,_,e,q⟩;cases e;exact q,fun q=>zAK _ _ _ rfl q⟩
theorem fO{s:Stm}(h:ss.reverse[i]?=some s):ss.drop (ss.length-(i+1))=s::ss.drop (ss.length-i):=by
 obtain ⟨hi,e⟩:=zq11.mp h;rw [List.length_reverse] at hi;rw [List.getElem_reverse] at e;have h1:ss.length-(i+1)<ss.length:=by omega
 rw [List.drop_eq_getElem_cons h1,show ss.length-(i+1)+1=ss.length-i by omega];congr 1;rw [<- e];congr 1;omega
theorem Aq{xs:List V}(h:StmsV K H xs ss f)(hx:xs.reverse[i]?=some x):∃s g,ss.reverse[i]?=some s/\s∈ss/\StmV K H x s g/\∀c∈g,c∈f:=by have lx:=h.length;obtain ⟨hi,e⟩:=zq11.mp hx;rw [List.length_reverse] at hi;rw [List.getElem_reverse] at e;obtain ⟨s,g,h1,h2,h3⟩:=h.get (i:=xs.length-1-i) (x:=x) (by rw [zq6 Jlk,e]);refine zAE s g ?_ (bD h1) h2 h3;rw [ER Jlk,<- lx];exact h1
theorem HQ{H':Hp}{bl:Addr}{ys:List V}{st:Stm}(h:StmV K H x st f)(s:SameX bl H H')(hb:H bl=some (.lst ys))(hf:bl∉f):StmV K H' x st f:=
 h.keep (SameX.tsL2 s hb) fun a ha o e=>s a o e (fun z=>hf (z ▸ ha))
theorem nB{H':Hp}{bl:Addr}{xs ys:List V}(h:StmsV K H xs ss f)(s:SameX bl H H')(hb:H bl=some (.lst ys))(hf:bl∉f):StmsV K H' xs ss f:=
 h.keep (SameX.tsL2 s hb) fun a ha o e=>s a o e (fun z=>hf (z ▸ ha))
theorem wD{s:Stm}(h:ss.reverse[i]?=some s):s.many+aS (ss.drop (ss.length-i))<=aS ss:=by
 have e:=congrArg aS (fO h);rw [aS] at e;have e2:aS ss=aS (ss.take (ss.length-(i+1)))+aS (ss.drop (ss.length-(i+1))):=by rw [<- eY,EX]
 omega
theorem lY(T:Txt K mg t)(d:Nat)(G_120:FnOk P w K mg base CX0 (3 * d+3) t.f_120 t.e_120 ["self","row","block"] (dH K t.C_Parting d fun _=>True)):FnOk P w K mg base CX0 (3 * d+4) t.f_119 t.e_119 ["self","rows","block"] (ig K t.C_Parting d):=by
 refine T.d_119.F.ok sc_119 ∅ ?_;rintro cdv A outer s H vs Q E hr ⟨p,a,x,rfl,N,bl,B,b,rs,ss,f,hP,hb,ha,hx,nab,nbf,hd,hm,h8,q⟩;have lx:=hx.length;obtain ⟨xs0,hbl0,_⟩:=hP.bs;refine ⟨_,
   (XSs.h
   (ai
    (br PassesOwn.never rfl (Dl T.z_reversed (aa (yqv 1 vl) ae) gl) (aA (i:=3) sc_119.nd rfl ll)
     (ak
      (aq (i:=2) sc_119.nd rfl ll (aW T.c_Parting.cl T.d_120 G_120 hr.m (yqv 0 vl) (aa (yqv 3 vl) (aa (yqv 2 vl) ae))))))
   (ak
    (aw (yqv 2 vl))))),?_⟩
 rw [show aO _ [V.ref p,V.ref a,x]=[some (.ref p),some (.ref a),some x,none] from rfl];rwa [f7];refine zn rs (SqL.of ha) ?_;refine Ff (fun i σ H'=>SameX bl H H'/\∃y o3,PartAt K t.C_Parting N H' p bl (FZ.aK (ss.drop (ss.length-i)) b B).2/\BlkV K N H' bl y (FZ.aK (ss.drop (ss.length-i)) b B).1/\(FZ.aK (ss.drop (ss.length-i)) b B).1.ds.length<=8/\σ=[some (.ref p),some (.ref a),some y,o3])
  ⟨SameX.refl,zAE x none ?_ ?_ ?_ rfl⟩ (fun i σ H' _ h=>SqL.of (h.1 _ _ ha nab)) ?_ ?_
 ·rw [qL,Bj,FZ.aK];exact hP
 ·rw [qL,Bj,FZ.aK];exact hb
 ·rw [qL,Bj,FZ.aK];exact h8
 ·rintro i r σ H1 hri ⟨s1,y,o3,hP1,hb1,l1,rfl⟩;rwa [f7];obtain ⟨st,g',hst,hms,hv,hsub⟩:=Aq hx hri;have hdm:=lI hms;have hmd:=wD hst;have hol:=FZ.cC (ss.drop (ss.length-i)) b B;obtain ⟨dx,ob1⟩:=hP1.ob;refine bP ob1 rfl ?_;refine zBG N bl _ _ st g' (zAY hP1 hb1 (HQ hv s1 hbl0 (fun z=>nbf (hsub bl z))) trivial (fun z=>nbf (hsub bl z)) Jlk Jlk l1 fun y2 H2 s2 hP2 hb2 l2=>?_);refine ⟨s1.trans s2,zAE y2 _ ?_ ?_ ?_ rfl⟩
  ·rw [fO hst,FZ.aK];exact hP2
  ·rw [fO hst,FZ.aK];exact hb2
  ·rw [fO hst,FZ.aK];exact l2
 ·rintro σ H1 ⟨s1,y,o3,hP1,hb1,l1,rfl⟩;rw [lx,rg,B5] at hP1 hb1 l1;rwa [];exact q y H1 s1 hP1 hb1 l1
theorem xV{N:Addr->Prop}{H:Hp}{bl a e q:Addr}{ed:FZ.Ed}{vs:List V}{ds:List Deed}(ha:H a=some (.lst vs))(nab:a≠bl)(hn:N a)(hv:Paired (DeedV1 K H) vs ds)(he:H e=none)(hq:upd H e (.tup (dC ed)) q=none):
  Same H (upd (upd H e (.tup (dC ed))) q (.tup [.ref a,.ref e]))/\BlkV K N (upd (upd H e (.tup (dC ed))) q (.tup [.ref a,.ref e])) bl (.ref q) ⟨ds,ed⟩:=by
 have t2:=Same.upd (o:=.tup (dC ed)) he;have t3:=Same.upd (o:=.tup [V.ref a,V.ref e]) hq;have s:=t2.trans t3;exact ⟨s,zBA q a e vs rfl ac (t3 _ _ (t2 _ _ ha)) (FL.Paired.imp hv fun y _ d _ z=>z.ts s.ts) (t3 _ _ ac) nab hn⟩
theorem C5(T:Txt K mg t)(d:Nat)(G_119:FnOk P w K mg base CX0 (3 * d+4) t.f_119 t.e_119 ["self","rows","block"] (ig K t.C_Parting d)):FnOk P w K mg base CX0 (3 * d+5) t.f_121 t.e_121 ["self","row","block"] (dH K t.C_Parting (d+1) Iy):=by
 have G_118:=@rY P w K mg base t T;refine T.d_121.F.ok sc_121 ∅ ?_;rintro cdv A outer s H vs Q E hr ⟨p,r,x,rfl,N,bl,B,b,st,f,hP,hb,hv,hok,nbf,hd,hm,h8,q⟩;refine ⟨_,
   (XSs.h
   (ai
    (aq (i:=3) sc_121.nd rfl ll (aG (aa (aJ ae) (aa (aG (aa aC (aa (aW T.c_Parting.cl T.d_118 G_118 hr.m (yqv 0 vl) (aa (yqv 2 vl) ae)) ae))) ae))))
   (ai
    (aq (i:=4) sc_121.nd rfl ll (aW T.c_Parting.cl T.d_118 G_118 hr.m (yqv 0 vl) (aa (aW T.c_Parting.cl T.d_119 G_119 hr.m (yqv 0 vl) (aa (ap ay (yqv 1 vl) aj) (aa (yqv 3 vl) ae))) ae)))
   (ai
    (aq (i:=5) sc_121.nd rfl ll (aW T.c_Parting.cl T.d_118 G_118 hr.m (yqv 0 vl) (aa (aW T.c_Parting.cl T.d_119 G_119 hr.m (yqv 0 vl) (aa (ap ay (yqv 1 vl) aj) (aa (yqv 3 vl) ae))) ae)))
   (ak
    (aw (aG (aa (aJ ae) (aa (aG (aa aC (aa (ap ay (yqv 1 vl) aj) (aa (yqv 4 vl) (aa (yqv 5 vl) ae))))) ae))))))))),?_⟩
 rw [show aO _ [V.ref p,r,x]=[some (.ref p),some r,some x,none,none,none] from rfl]
 cases hv with
 | @deed q0 dd hf hq=>exact absurd hok id
 | @whl q0 a1 n xs1 rows f1 hq ha1 h1=>exact absurd hok id
 | @ifs q0 a1 c1 n xs1 ys1 ones others f1 g1 hq ha1 hc1 h1 h2=>simp only [Stm.deep,Stm.many] at hd hm;obtain ⟨xs0,hbl0,_⟩:=hP.bs;have na1:a1≠bl:=fun z=>nbf (by rw [<- z];simp);have nc1:c1≠bl:=fun z=>nbf (by rw [<- z];simp);have nf1:bl∉f1:=fun z=>nbf (by simp [z]);have ng1:bl∉g1:=fun z=>nbf (by simp [z]);obtain ⟨dx,ob⟩:=hP.ob;rw [FZ.bW] at q;dsimp only at q;rwa [i9,fB];intro a0 ha0;have t0:=Same.upd (o:=.lst []) ha0;have nab0:a0≠bl:=(am hbl0 ha0).symm;refine bP (t0 _ _ ob) rfl (zAU N bl B b (hP.same t0) (hb.same t0) Jlk fun H1 sx1 hP1=>?_);have gw:=FZ.bz b B;generalize FZ.aF b B=w0 at *;have ea0:H1 a0=some (.lst []):=sx1 _ _ ac nab0;have sx01:=(SameX.of (p:=bl) t0).trans sx1;intro e0 he0 q1 hq1;obtain ⟨sb,hbb⟩:=xV (K:=K) (ed:=.go w0.1) (ds:=[]) ea0 nab0 (hP.nw _ ha0) .nil he0 hq1;have hPG:=hP1.same sb;have sxG:=sx01.trans (SameX.of (p:=bl) sb);rw [show dC (.go w0.1)=[V.str "go",V.int w0.1] from rfl] at sb hbb hPG sxG;generalize upd (upd H1 e0 _) q1 _=G at sb hbb hPG sxG ⊢;obtain ⟨dxG,obG⟩:=hPG.ob;obtain ⟨xsG,hblG,_⟩:=hPG.bs;refine bP obG rfl (bP obG rfl (zAA _ _ ((SameX.tsL2 sxG hbl0).seqT hq) rfl ?_));rwa [fB];have lo1:=FZ.cC ones ⟨[],.go w0.1⟩ w0.2;refine zBI N bl w0.2 ⟨[],.go w0.1⟩ xs1 ones f1 hPG hbb (sxG _ _ ha1 na1) (nB h1 sxG hbl0 nf1) na1 nf1 Jlk Jlk (cq _) fun y2 H3 s3 hP3 hb3 l3=>?_;generalize FZ.aK ones ⟨[],.go w0.1⟩ w0.2=o at *;have gw2:=FZ.bz o.1 o.2;refine zAU N bl _ _ hP3 hb3 Jlk fun H4 s4 hP4=>?_;generalize FZ.aF o.1 o.2=wo at *;have sxG4:=s3.trans s4;have sx4:=sxG.trans sxG4;obtain ⟨dx4,ob4⟩:=hP4.ob;obtain ⟨xs4,hbl4,_⟩:=hP4.bs;refine bP ob4 rfl (bP ob4 rfl (zAA _ _ ((SameX.tsL2 sx4 hbl0).seqT hq) rfl ?_));rwa [fB];have lo2:=FZ.cC others ⟨[],.go w0.1⟩ wo.2;refine zBI N bl wo.2 ⟨[],.go w0.1⟩ ys1 others g1 hP4 (hbb.sx sxG4 hblG) (sx4 _ _ hc1 nc1) (nB h2 sx4 hbl0 ng1) nc1 ng1 Jlk Jlk (cq _) fun y5 H5 s5 hP5 hb5 l5=>?_;generalize FZ.aK others ⟨[],.go w0.1⟩ wo.2=o2 at *;refine zAU N bl _ _ hP5 hb5 Jlk fun H6 s6 hP6=>?_;generalize FZ.aF o2.1 o2.2=wp at *;have sx6:=sx4.trans (s5.trans s6);obtain ⟨xs6,hbl6,_⟩:=hP6.bs;intro a7 ha7;have t7:=Same.upd (o:=.lst []) ha7;refine zAA _ _ ((SameX.tsL2 sx6 hbl0 |>.trans t7.ts).seqT hq) rfl fun e7 he7 q7 hq7=>?_;obtain ⟨sm,hb7⟩:=fS (K:=K) (ed:=.choose n wo.1 wp.1) (ds:=[]) hbl6 (hP6.nw _ ha7) ha7 .nil he7 hq7;exact q _ _ (sx6.trans (SameX.of sm)) (hP6.same sm) hb7 (cq _)
theorem Dj(T:Txt K mg t)(d:Nat)(G_119:FnOk P w K mg base CX0 (3 * d+4) t.f_119 t.e_119 ["self","rows","block"] (ig K t.C_Parting d)):FnOk P w K mg base CX0 (3 * d+5) t.f_122 t.e_122 ["self","row","block"] (dH K t.C_Parting (d+1) Iz):=by
 have G_118:=@rY P w K mg base t T;have G_116:=@uB P w K mg base t T;refine T.d_122.F.ok sc_122 ∅ ?_;rintro cdv A outer s H vs Q E hr ⟨p,r,x,rfl,N,bl,B,b,st,f,hP,hb,hv,hok,nbf,hd,hm,h8,q⟩;refine ⟨_,
   (XSs.h
   (ai
    (aq (i:=3) sc_122.nd rfl ll (aW T.c_Parting.cl T.d_118 G_118 hr.m (yqv 0 vl) (aa (yqv 2 vl) ae)))
   (ai
    (aq (i:=4) sc_122.nd rfl ll (gL T.c_Parting.cl T.d_116 G_116 hr.m (yqv 0 vl)))
   (ai
    (aq (i:=5) sc_122.nd rfl ll (aW T.c_Parting.cl T.d_118 G_118 hr.m (yqv 0 vl) (aa (aW T.c_Parting.cl T.d_119 G_119 hr.m (yqv 0 vl) (aa (ap ay (yqv 1 vl) aj) (aa (aG (aa (aJ ae) (aa (aG (aa aC (aa (yqv 4 vl) ae))) ae))) ae))) ae)))
   (ai
    (ip (aG (aa (aJ ae) (aa (aG (aa aC (aa (ap ay (yqv 1 vl) aj) (aa (yqv 5 vl) (aa (yqv 3 vl) ae))))) ae))) (nK (b9 (yqv 0 vl) rfl) (yqv 4 vl) kx))
   (ak
    (aw (aG (aa (aJ ae) (aa (aG (aa aC (aa (yqv 4 vl) ae))) ae)))))))))),?_⟩
 rw [show aO _ [V.ref p,r,x]=[some (.ref p),some r,some x,none,none,none] from rfl]
 cases hv with
 | @deed q0 dd hf hq=>exact absurd hok id
 | @ifs q0 a1 c1 n xs1 ys1 ones others f1 g1 hq ha1 hc1 h1 h2=>exact absurd hok id
 | @whl q0 a1 n xs1 rows f1 hq ha1 h1=>
  simp only [Stm.deep,Stm.many] at hd hm;obtain ⟨xs0,hbl0,_⟩:=hP.bs;have na1:a1≠bl:=fun z=>nbf (by rw [<- z];simp);have nf1:bl∉f1:=fun z=>nbf (by simp [z]);obtain ⟨dx,ob⟩:=hP.ob;rw [FZ.bW] at q;dsimp only at q;rwa [i9,fB,nj];refine bP ob rfl (zAU N bl B b hP hb Jlk fun H1 sx1 hP1=>?_);have gw:=FZ.bz b B;generalize FZ.aF b B=w0 at *;obtain ⟨dx1,ob1⟩:=hP1.ob;refine bP ob1 rfl ?_;refine zAN N bl w0.2 hP1 Jlk fun H2 sx2 hP2=>?_;have sx02:=sx1.trans sx2;obtain ⟨dx2,ob2⟩:=hP2.ob;obtain ⟨xs2,hbl2,_⟩:=hP2.bs;refine bP ob2 rfl (bP ob2 rfl (zAA _ _ ((SameX.tsL2 sx02 hbl0).seqT hq) rfl fun a3 ha3 e3 he3 q3 hq3=>?_));obtain ⟨sm,hb3⟩:=fS (K:=K) (ed:=.go w0.2.length) (ds:=[]) hbl2 (hP2.nw _ ha3) ha3 .nil he3 hq3;rw [show dC (.go w0.2.length)=[V.str "go",V.int w0.2.length] from rfl] at sm hb3;have hP3:=hP2.same sm;have sx03:=sx02.trans (SameX.of (p:=bl) sm);rwa [fB];have lo:=FZ.cC rows ⟨[],.go w0.2.length⟩ (w0.2++[⟨[],.stop⟩]);have go:=FZ.bN rows ⟨[],.go w0.2.length⟩ (w0.2++[⟨[],.stop⟩]);rw [zq7,bV] at lo go;refine zBI N bl (w0.2++[(⟨[],.stop⟩:FZ.Blk)]) ⟨[],.go w0.2.length⟩ xs1 rows f1 hP3 hb3 (sx03 _ _ ha1 na1) (nB h1 sx03 hbl0 nf1) na1 nf1 Jlk (by rw [zq7,bV];omega) (cq _) fun y4 H4 s4 hP4 hb4 l4=>?_;generalize FZ.aK rows ⟨[],.go w0.2.length⟩ (w0.2++[⟨[],.stop⟩])=o at *;have gw2:=FZ.bz o.1 o.2;refine zAU N bl _ _ hP4 hb4 Jlk fun H5 s5 hP5=>?_;generalize FZ.aF o.1 o.2=wo at *;have sx05:=sx03.trans (s4.trans s5);intro a6 ha6;have t6:=Same.upd (o:=.lst []) ha6;refine zAA _ _ ((SameX.tsL2 sx05 hbl0 |>.trans t6.ts).seqT hq) rfl fun e6 he6 q6 hq6=>?_;obtain ⟨xs5,hbl5,_⟩:=hP5.bs;obtain ⟨sm6,hb6⟩:=fS (K:=K) (ed:=.choose n wo.1 w0.1) (ds:=[]) hbl5 (hP5.nw _ ha6) ha6 .nil he6 hq6;rw [show dC (.choose n wo.1 w0.1)=[V.str "choose",V.str n,V.int wo.1,V.int w0.1] from rfl] at sm6 hb6;have hP6:=hP5.same sm6;have sx06:=sx05.trans (SameX.of (p:=bl) sm6);generalize upd (upd (upd H5 a6 _) e6 _) q6 _=G at sm6 hb6 hP6 sx06 ⊢;obtain ⟨dx6,ob6⟩:=hP6.ob;obtain ⟨xs6,hbl6,hxs6⟩:=hP6.bs;have lx6:=hxs6.length;refine df ob6 T.c_Parting.cl T.n_Parting_blocks rfl ?_;have sx67:SameX bl G (upd G bl (.lst (xs6.set w0.2.length (.ref q6)))):=SameX.upd;refine zAM bl xs6 _ w0.2.length rfl rfl hbl6 (FL.mS Jlk) ?_;have hP7:PartAt K t.C_Parting N (upd G bl (.lst (xs6.set w0.2.length (.ref q6)))) p bl (wo.2.set w0.2.length ⟨[],.choose n wo.1 w0.1⟩):=
   ⟨⟨dx6,sx67 _ _ ob6 hP6.ne⟩,fun c hc=>hP6.nw c (di hc),_,ac,FL.Paired.put (hb6.sx sx67 hbl6) _ (FL.Paired.imp hxs6 fun y _ c _ h=>h.sx sx67 hbl6)⟩
  have sx07:=sx06.trans sx67;generalize upd G bl _=G2 at hP7 sx07 ⊢;intro a8 ha8 e8 he8 q8 hq8;obtain ⟨xs7,hbl7,_⟩:=hP7.bs;obtain ⟨sm8,hb8⟩:=fS (K:=K) (ed:=.go w0.2.length) (ds:=[]) hbl7 (hP7.nw _ ha8) ha8 .nil he8 hq8;exact q _ _ (sx07.trans (SameX.of sm8)) (hP7.same sm8) hb8 (cq _)
theorem A3(T:Txt K mg t)(d:Nat)(G_121:FnOk P w K mg base CX0 (3 * d+5) t.f_121 t.e_121 ["self","row","block"] (dH K t.C_Parting (d+1) Iy)) (G_122:FnOk P w K mg base CX0 (3 * d+5) t.f_122 t.e_122 ["self","row","block"] (dH K t.C_Parting (d+1) Iz)):FnOk P w K mg base CX0 (3 * (d+1)+3) t.f_120 t.e_120 ["self","row","block"] (dH K t.C_Parting (d+1) fun _=>True):=by
 have G_118:=@rY P w K mg base t T;refine T.d_120.F.ok HB ∅ ?_;rintro cdv A outer s H vs Q E hr ⟨p,r,x,rfl,N,bl,B,b,st,f,hP,hb,hv,hok,nbf,hd,hm,h8,q⟩;obtain ⟨dx,ob⟩:=hP.ob;obtain ⟨xs0,hbl0,_⟩:=hP.bs;refine ⟨_,
   (XSs.h
   (ai
    (aH (ar aT (ap ay (yqv 1 vl) aj) aC (az _))
     (ak
      (aw (aW T.c_Parting.cl T.d_121 G_121 hr.m (yqv 0 vl) (aa (yqv 1 vl) (aa (yqv 2 vl) ae)))))
     aD)
   (ai
    (aH (ar aT (ap ay (yqv 1 vl) aj) aC (az _))
     (ak
      (aw (aW T.c_Parting.cl T.d_122 G_122 hr.m (yqv 0 vl) (aa (yqv 1 vl) (aa (yqv 2 vl) ae)))))
     aD)
   (ai
    (aH (ar aT (aL aM gl T.z_len PySem.boot_len (aa (ap ay (yqv 2 vl) aj) ae)) (AR (v:=.int 8) gl T.g_MOST_DEEDS ⟨_,rfl⟩) (az _))
     (ak
      (aw (aG (aa (aJ (aa (yqv 1 vl) ae)) (aa (aG (aa aC (aa (aW T.c_Parting.cl T.d_118 G_118 hr.m (yqv 0 vl) (aa (yqv 2 vl) ae)) ae))) ae)))))
     aD)
   (ak
    (aw (aG (aa (av f6 (aJ (aa (yqv 1 vl) ae)) (ap ay (yqv 2 vl) aj)) (aa (ap ay (yqv 2 vl) aj) ae))))))))),?_⟩
 rw [show aO _ [V.ref p,r,x]=[some (.ref p),some r,some x] from rfl];have hv0:=hv
 cases hv with
 | @ifs q0 a1 c1 n xs1 ys1 ones others f1 g1 hq ha1 hc1 h1 h2=>
  rwa [f7,i9];refine zAA _ _ hq rfl ?_;rwa [f7,i9];refine aB (fun _=>bP ob rfl (zBG N bl B b _ _ (zAY hP hb hv0 trivial nbf hd hm h8 q))) (fun z=>absurd trivial z)
 | @whl q0 a1 n xs1 rows f1 hq ha1 h1=>
  rwa [f7,i9];refine zAA _ _ hq rfl ?_;rwa [f7,i9];refine aB (fun z=>absurd z Jkk) (fun _=>zAA _ _ hq rfl ?_);rwa [f7,i9];refine aB (fun _=>bP ob rfl (zBG N bl B b _ _ (zAY hP hb hv0 trivial nbf hd hm h8 q))) (fun z=>absurd trivial z)
 | @deed q0 dd hf hq=>
  rwa [f7,i9];refine u7 hf hq Jkk Jkk Jkk (zn _ rfl ?_);rw [zq0 bw];refine u7 hf hq Jkk Jkk Jkk (zn _ rfl ?_);rw [zq0 bw];obtain ⟨qb,ab,eb,vs,rfl,b1,b2,b3,b4,b5,b6⟩:=id hb;have lv:=b3.length;rw [FZ.bW] at q;simp only [Stm.many] at hm;rwa [f7,i9];refine zAA _ _ (SqT.of b1) rfl (zAA ab vs rfl (.inl (SqL.of b2)) ?_)
  by_cases c8:b.ds.length=8
  ·rw [zq1 c8] at q;rw [zq1 (by rw [lv,c8];rfl)];intro a1 ha1;have t1:=Same.upd (o:=.lst [V.ref q0]) ha1;have n1:a1≠bl:=(am hbl0 ha1).symm;refine bP (t1 _ _ ob) rfl (zAU N bl B b (hP.same t1) (hb.same t1) Jlk fun H2 s2 hP2=>?_);have sx2:=(SameX.of (p:=bl) t1).trans s2;intro e3 he3 q3 hq3;obtain ⟨sm,hb3⟩:=xV (K:=K) (ed:=.go (FZ.aF b B).1) (ds:=[dd]) (s2 _ _ ac n1) n1 (hP.nw _ ha1) (.cons (zAC q0 rfl ((SameX.tsL2 sx2 hbl0).seqT hq) hf) .nil) he3 hq3;exact q _ _ (sx2.trans (SameX.of sm)) (hP2.same sm) hb3 Jll
  ·rw [zq0 c8] at q;rw [zq0 (by rw [lv];simp;omega)];intro a1 ha1;have t1:=Same.upd (o:=.lst [V.ref q0]) ha1;have n1:ab≠a1:=am b2 ha1;refine zAA _ _ (SqT.of (t1 _ _ b1)) rfl (zAT a1 ab _ _ rfl rfl ac (t1 _ _ b2) (by rw [zq8,bV];omega) fun a2 ha2=>?_);have t2:=Same.upd (o:=.lst ([V.ref q0]++vs)) ha2;have t12:=t1.trans t2;refine zAA _ _ (SqT.of (t12 _ _ b1)) rfl fun q3 hq3=>?_;have t3:=Same.upd (o:=.tup [V.ref a2,V.ref eb]) hq3;have t13:=t12.trans t3;have n2:a2≠bl:=(am (t1 _ _ hbl0) ha2).symm;refine q _ _ (SameX.of t13) (hP.same t13) (zBA q3 a2 eb _ rfl ac (t3 _ _ ac) ?_ (t13 _ _ b4) n2 (hP.nw _ (t1.free ha2))) (by rw [cW];omega);exact .cons (zAC q0 rfl (t13.ts.seqT hq) hf) (FL.Paired.imp b3 fun y _ c _ z=>z.ts t13.ts)
def qi(C:Addr):Sp:=fun vs H Q _=>∃(p:Addr)(dx:Addr),vs=[.ref p]/\H p=some (.ins C dx [])/\∀bl,H bl=none->Q .non (upd (upd H bl (.lst [])) p (.ins C dx [("blocks",.ref bl)]))
def kY(K:W.Frag)(C:Addr)(d:Nat)(p:Addr)(H:Hp)(Q:VK):Prop:=∃(wd:Int)(ins oth:List Str)(ss:List Stm)(a b r:Addr)(ys:List V)(g:List Addr),ProgAt K C H p wd ins oth ss a b r ys g/\bF ss<d/\3 * aS ss<3900/\
 ∀bl xs H',Same H H'->H bl=none->H' bl=some (.lst xs)->Paired (BlkV K (fun c=>H c=none) H' bl) xs (FZ.b7 ss)->Q (.ref bl) H'
def me(K:W.Frag)(C:Addr)(d:Nat):Sp:=fun vs H Q _=>∃p:Addr,vs=[.ref p]/\kY K C d p H Q
theorem zH{C p:Addr}{d:Nat}{H:Hp}{Q:VK}{E:XK}:me K C d [.ref p] H Q E=kY K C d p H Q:=propext ⟨by rintro ⟨_,e,q⟩;cases e;exact q,fun q=>zn _ rfl q⟩
theorem D5{C p:Addr}{H:Hp}{Q:VK}{E:XK}:qi C [.ref p] H Q E=∃dx,H p=some (.ins C dx [])/\∀bl,H bl=none->Q .non (upd (upd H bl (.lst [])) p (.ins C dx [("blocks",.ref bl)])):=propext ⟨by rintro ⟨_,dx,e,q⟩;cases e;exact ⟨dx,q⟩,fun ⟨dx,q⟩=>zAD _ dx rfl q⟩
theorem yX(T:Txt K mg t):FnOk P w K mg base CX0 1 t.f_115 t.e_115 ["self"] (qi t.C_Parting):=by
 refine T.d_115.F.ok Hx ∅ ?_;rintro cdv A outer s H vs Q E hr ⟨p,dx,rfl,hp,q⟩;refine ⟨_,
   (XSs.h
   (ak
    (cn (yqv 0 vl) (aJ ae) rfl))),?_⟩
 rw [show aO _ [V.ref p]=[some (.ref p)] from rfl];rwa [];intro bl hbl;have np:p≠bl:=am hp hbl;refine gD (by rw [ao np];exact hp) T.c_Parting.cl T.n_Parting_blocks Jll ?_;rw [cz Jlm,xA];exact q bl hbl
theorem kd(T:Txt K mg t):∀d,FnOk P w K mg base CX0 (3 * d+3) t.f_120 t.e_120 ["self","row","block"] (dH K t.C_Parting d fun _=>True)/\FnOk P w K mg base CX0 (3 * d+4) t.f_119 t.e_119 ["self","rows","block"] (ig K t.C_Parting d)
 |0=>by
  have h0:FnOk P w K mg base CX0 (3 * 0+3) t.f_120 t.e_120 ["self","row","block"] (dH K t.C_Parting 0 fun _=>True):=⟨fun vs H Q E h=>by obtain ⟨_,_,_,_,_,_,_,_,_,_,_,_,_,_,_,h,_⟩:=h;omega,fun _ _ _ _ _ _ _ _ _ _ _ _ _ h=>by obtain ⟨_,_,_,_,_,_,_,_,_,_,_,_,_,_,_,h,_⟩:=h;omega⟩
  exact ⟨h0,lY T 0 h0⟩
 |d+1=>by have h1:=A3 T d (C5 T d (kd T d).2) (Dj T d (kd T d).2);exact ⟨h1,lY T (d+1) h1⟩
theorem wH(T:Txt K mg t)(d:Nat):FnOk P w K mg base CX0 (3 * d+5) t.f_114 t.e_114 ["program"] (me K t.C_Program d):=by
 have G_115:=@yX P w K mg base t T;have G_116:=@uB P w K mg base t T;have G_119:=(@kd P w K mg base t T d).2;refine T.d_114.F.ok sc_114 ∅ ?_;rintro cdv A outer s H vs Q E hr ⟨p,rfl,wd,ins,oth,ss,a,b,r,ys,g,hP,hd,hm,q⟩;refine ⟨_,
   (XSs.h
   (ai
    (aq (i:=1) sc_114.nd rfl ll (tq T.c_Parting T.d_115 G_115 hr.m gl))
   (ai
    (aq (i:=2) sc_114.nd rfl ll (gL T.c_Parting.cl T.d_116 G_116 hr.m (yqv 1 vl)))
   (ai
    (ip (aW T.c_Parting.cl T.d_119 G_119 hr.m (yqv 1 vl) (aa (b9 (yqv 0 vl) rfl) (aa (aG (aa (aJ ae) (aa (aG (aa aC ae)) ae))) ae))) (nK (b9 (yqv 1 vl) rfl) (yqv 2 vl) kx))
   (ak
    (aw (b9 (yqv 1 vl) rfl))))))),?_⟩
 rw [show aO _ [V.ref p]=[some (.ref p),none,none] from rfl];rwa [nj,fB];intro x dx hx hdx hne;rwa [D5,nj,fB];refine zn dx ac fun bl hbl=>?_;have hbl0:H bl=none:=di (di hbl);have nxb:x≠bl:=am ac hbl;have e2:upd (upd (upd (upd H dx (.own x)) x (.ins t.C_Parting dx [])) bl (.lst [])) x (.ins t.C_Parting dx [("blocks",.ref bl)]) bl=some (.lst []):=by rw [ao nxb.symm];exact ac
 have hQ:PartAt K t.C_Parting (fun c=>H c=none) (upd (upd (upd (upd H dx (.own x)) x (.ins t.C_Parting dx [])) bl (.lst [])) x (.ins t.C_Parting dx [("blocks",.ref bl)])) x bl []:=
  ⟨⟨dx,ac⟩,fun c hc=>di (di (di (di hc))),[],e2,.nil⟩
 have s2:Same H (upd (upd (upd (upd H dx (.own x)) x (.ins t.C_Parting dx [])) bl (.lst [])) x (.ins t.C_Parting dx [("blocks",.ref bl)])):=(((Same.upd hdx).updM hx).updM hbl0).updM hx;generalize upd (upd (upd (upd H dx (.own x)) x (.ins t.C_Parting dx [])) bl (.lst [])) x (.ins t.C_Parting dx [("blocks",.ref bl)])=H2 at *;obtain ⟨dx2,ob2⟩:=hQ.ob;refine bP ob2 rfl (zAN _ bl ([]) hQ Jkm fun H3 sx3 hP3=>?_);have n0:∀c o,H c=some o->c≠bl:=fun c o e=>am e hbl0;have s3:Same H H3:=fun c o e=>sx3 c o (s2 _ _ e) (n0 c o e);obtain ⟨dx3,ob3⟩:=hP3.ob;obtain ⟨dp,obp⟩:=hP.ob;refine bP ob3 rfl ?_;refine df (s3 _ _ obp) T.c_Program.cl T.n_Program_rows rfl ?_;rwa [nj,fB];intro a4 ha4 e4 he4 q4 hq4;obtain ⟨xs3,hbl3,_⟩:=hP3.bs;obtain ⟨sm,hb4⟩:=fS (K:=K) (N:=fun c=>H c=none) (ed:=.stop) (ds:=[]) hbl3 (hP3.nw _ ha4) ha4 .nil he4 hq4;rw [show dC .stop=[V.str "stop"] from rfl] at sm hb4;have hP4:=hP3.same sm;have s4:=s3.trans sm;generalize upd (upd (upd H3 a4 _) e4 _) q4 _=G at sm hb4 hP4 s4 ⊢;have nf:bl∉g:=fun z=>by obtain ⟨zs,hz⟩:=hP.st.tracked bl z;rw [hbl0] at hz;cases hz
 refine zBI _ bl _ _ ys ss g hP4 hb4 (s4 _ _ hP.rs) (hP.st.same s4) (n0 _ _ hP.rs) nf hd (by simp;omega) Jll fun y H5 sx5 hP5 hb5 _=>?_;rw [xA] at hP5 hb5;have eB:FZ.b7 ss=(FZ.aK ss ⟨[],.stop⟩ [⟨[],.stop⟩]).2.set 0 (FZ.aK ss ⟨[],.stop⟩ [⟨[],.stop⟩]).1:=rfl;have ho:=FZ.bN ss ⟨[],.stop⟩ [⟨[],.stop⟩];generalize FZ.aK ss ⟨[],.stop⟩ [⟨[],.stop⟩]=o at *;have s5:Same H H5:=fun c o e=>sx5 c o (s4 _ _ e) (n0 c o e);obtain ⟨dx5,ob5⟩:=hP5.ob;obtain ⟨xs5,hbl5,hxs5⟩:=hP5.bs;have lx5:=hxs5.length;rw [bV] at ho;refine df ob5 T.c_Parting.cl T.n_Parting_blocks rfl ?_;refine zAM bl xs5 _ 0 rfl rfl hbl5 (FL.mS (k:=0) Jlk) ?_;have sx6:SameX bl H5 (upd H5 bl (.lst (xs5.set 0 y))):=SameX.upd;refine df (sx6 _ _ ob5 hP5.ne) T.c_Parting.cl T.n_Parting_blocks rfl ?_;refine q bl _ _ (fun c o e=>sx6 c o (s5 _ _ e) (n0 c o e)) hbl0 ac ?_;rw [eB];exact FL.Paired.put (hb5.sx sx6 hbl5) _ (FL.Paired.imp hxs5 fun y _ c _ h=>h.sx sx6 hbl5)
theorem ue{o:FB.Opd}:List.map id (List.filter jT [o.v])=o.reads.map V.str:=by cases o<;>rfl
theorem yh{o p:FB.Opd}:List.map id (List.filter jT [o.v,p.v])=(o.reads++p.reads).map V.str:=by cases o<;>cases p<;>rfl
theorem mR{o:FB.Opd}{H:Hp}{Q:VK}(h:Q (.bl (jT o.v)) H):zE K [o.v,.ty "str"] H Q:=by
 cases o with
 |box n=>exact r_isi_str_str.mpr h
 |word i=>exact r_isi_int_str.mpr h
theorem sg{f:Str}(h:f∈FB.opsL):¬f="tell":=by
 rintro rfl
 revert h
 decide +kernel
theorem ix0{d:FB.Deed}{H:Hp}{a:Addr}{Z:V->Hp->Prop}(f:d.fine)(hS:SqT K H a d.vs)(h:Z (.bl d.tells) H):∃xs v,SqT K H a xs/\atI xs 0=some v/\rEq v (.str "tell") H Z:=by
 cases d with
 |tell o=>exact zAE _ _ hS rfl rfl h
 |copy n o=>exact zAE _ _ hS rfl rfl h
 |op g n o p=>refine zAE _ _ hS rfl rfl ?_;have e:decide (V.str g=V.str "tell")=false:=bC (fun z=>sg f (V.str.inj z));rw [e];exact h
def wr(d:FB.Deed):Str:=d.writes.headD ""
theorem JH{d:FB.Deed}(f:d.tells=true):d.writes=[]:=by
 cases d with
 |tell o=>rfl
 |copy n o=>cases f
 |op g n o p=>cases f
def gj:FB.Deed->List FB.Opd
 | .tell a=>[a]
 | .copy _ a=>[a]
 | .op _ _ a b=>[a,b]
def wrV(d:FB.Deed):V:=match d.writes with | []=>.non | n::_=>.str n
def vh(K:W.Frag):Sp:=fun vs H Q _=>∃(a:Addr)(d:FB.Deed),vs=[.ref a]/\SqT K H a d.vs/\d.fine/\∀p,H p=none->Q (.ref p) (upd H p (.tup ((gj d).map FB.Opd.v)))
def kC(K:W.Frag):Sp:=fun vs H Q _=>∃(a:Addr)(d:FB.Deed),vs=[.ref a]/\SqT K H a d.vs/\d.fine/\Q (wrV d) H
theorem pO{d:FB.Deed}:(gj d).length<=2:=by cases d<;>simp [gj]
theorem uC(T:Txt K mg t):FnOk P w K mg base CX0 1 t.f_123 t.e_123 ["deed"] (vh K):=by
 refine T.d_123.F.ok HC ∅ ?_;rintro cdv A outer s H vs Q E hr ⟨a,d,rfl,hS,hf,q⟩;refine ⟨_,
   (XSs.h
   (ak
    (aw (cD (ar aT (ap ay (yqv 0 vl) aj) aC (az _)) (dO Aa (yqv 0 vl) (dm aj) io) (dO Aa (yqv 0 vl) (dm aj) io))))),?_⟩
 rw [show aO _ [V.ref a]=[some (.ref a)] from rfl];rwa [];refine ix0 hf hS (zn _ rfl ?_)
 cases d with
 |tell o=>exact zAC _ hS (k8 (k:=1) (show ¬HT.sIx 2 0 (some 1)=0 by decide)) q
 |copy n o=>exact zAC _ hS (k8 (k:=2) (show ¬HT.sIx 3 0 (some 2)=0 by decide)) q
 |op f n o o2=>exact zAC _ hS (k8 (k:=2) (show ¬HT.sIx 4 0 (some 2)=0 by decide)) q
theorem zP{a:Addr}{H:Hp}{Q:VK}{E:XK}:vh K [.ref a] H Q E=∃d:FB.Deed,SqT K H a d.vs/\d.fine/\∀p,H p=none->Q (.ref p) (upd H p (.tup ((gj d).map FB.Opd.v))):=propext ⟨by rintro ⟨_,d,e,q⟩;cases e;exact ⟨d,q⟩,by rintro ⟨d,q⟩;exact zAD a d rfl q⟩
theorem gH(T:Txt K mg t):FnOk P w K mg base CX0 1 t.f_125 t.e_125 ["deed"] (kC K):=by
 refine T.d_125.F.ok HE ∅ ?_;rintro cdv A outer s H vs Q E hr ⟨a,d,rfl,hS,hf,q⟩;refine ⟨_,
   (XSs.h
   (ak
    (aw (cD (ar aT (ap ay (yqv 0 vl) aj) aC (az _)) cx (ap ay (yqv 0 vl) aj))))),?_⟩
 rw [show aO _ [V.ref a]=[some (.ref a)] from rfl];rwa [];refine ix0 hf hS (zn _ rfl ?_)
 cases d with
 |tell o=>exact q
 |copy n o=>exact zAA _ _ hS rfl q
 |op f n o o2=>exact zAA _ _ hS rfl q
theorem dN{a:Addr}{H:Hp}{Q:VK}{E:XK}:kC K [.ref a] H Q E=∃d:FB.Deed,SqT K H a d.vs/\d.fine/\Q (wrV d) H:=propext ⟨by rintro ⟨_,d,e,q⟩;cases e;exact ⟨d,q⟩,by rintro ⟨d,q⟩;exact zAD a d rfl q⟩
def gA:Sp:=fun vs H Q _=>∃w:Int,vs=[.int w]/\0<=w/\w<=8/\Q (.int (2 ^ w.toNat)) H
theorem nu{w:Int}{H:Hp}{Q:VK}{E:XK}:gA [.int w] H Q E=(0<=w/\w<=8/\Q (.int (2 ^ w.toNat)) H):=propext ⟨by rintro ⟨_,e,q⟩;cases e;exact q,by intro q;exact zn w rfl q⟩
def jf:Sp:=fun vs H Q _=>∃(op:Str)(x y w:Int),vs=[.str op,.int x,.int y,.int w]/\0<=w/\w<=8/\Q (.int (kS op x y w)) H
theorem sG{op:Str}{x y w:Int}{H:Hp}{Q:VK}{E:XK}:jf [.str op,.int x,.int y,.int w] H Q E=(0<=w/\w<=8/\Q (.int (kS op x y w)) H):=propext ⟨by rintro ⟨_,_,_,_,e,q⟩;cases e;exact q,by intro q;exact zAP op x y w rfl q⟩
theorem kR(T:Txt K mg t):FnOk P w K mg base CX0 1 t.f_112 t.e_112 ["width"] gA:=by
 refine T.d_112.F.ok sc_112 ∅ ?_;rintro cdv A outer s H vs Q E hr ⟨w,rfl,h0,h8,q⟩;refine ⟨_,
   (XSs.h
   (ai
    (aq (i:=1) sc_112.nd rfl ll aj)
   (ai
    (br PassesOwn.never rfl (cm gl T.z_range (aa (yqv 0 vl) ae)) (aA (i:=2) sc_112.nd rfl ll)
     (ak
      (aq (i:=1) sc_112.nd rfl ll (av dc (yqv 1 vl) aj))))
   (ak
    (aw (yqv 1 vl)))))),?_⟩
 rw [show aO _ [V.int w]=[some (.int w),none,none] from rfl];rwa [];refine zAB Jlk Jlk (dJ (fun i σ H'=>H'=H/\∃b,σ=[some (.int w),some (.int (2 ^ i)),b]) ⟨rfl,none,rfl⟩ ?_ ?_)
 ·rintro i σ H2 hi ⟨rfl,b,rfl⟩;rwa [];exact ⟨.inr ⟨Jkm,Jkm⟩,_,by rw [Int.pow_succ]⟩
 ·rintro σ H2 ⟨rfl,b,rfl⟩;rwa [];exact q
theorem pL(T:Txt K mg t):FnOk P w K mg base CX0 2 t.f_113 t.e_113 ["op","x","y","width"] jf:=by
 have G_112:=@kR P w K mg base t T;refine T.d_113.F.ok Hw ∅ ?_;rintro cdv A outer s H vs Q E hr ⟨op,x,y,w,rfl,h0,h8,q⟩;refine ⟨_,
   (XSs.h
   (ai
    (aH (ar aT (yqv 0 vl) aC (az _))
     (ak
      (aw (av aP (av bu (yqv 1 vl) (yqv 2 vl)) (au T.d_112 G_112 hr.m (aa (yqv 3 vl) ae) gl))))
     aD)
   (ai
    (aH (ar aT (yqv 0 vl) aC (az _))
     (ak
      (aw (av aP (av g9 (yqv 1 vl) (yqv 2 vl)) (au T.d_112 G_112 hr.m (aa (yqv 3 vl) ae) gl))))
     aD)
   (ai
    (aH (ar aT (yqv 0 vl) aC (az _))
     (ak
      (aw (av Dn (yqv 1 vl) (yqv 2 vl))))
     aD)
   (ai
    (aH (ar aT (yqv 0 vl) aC (az _))
     (ak
      (aw (av Ic (yqv 1 vl) (yqv 2 vl))))
     aD)
   (ai
    (aH (ar aT (yqv 0 vl) aC (az _))
     (ak
      (aw (av Do (yqv 1 vl) (yqv 2 vl))))
     aD)
   (ai
    (aH (ar aT (yqv 0 vl) aC (az _))
     (ak
      (aw (cD (ar eF (yqv 1 vl) (yqv 2 vl) (az _)) aj aj)))
     aD)
   (ak
    (aw (cD (ar aT (yqv 1 vl) (yqv 2 vl) (az _)) aj aj)))))))))),?_⟩
 rw [show aO _ [V.str op,V.int x,V.int y,V.int w]=[some (.str op),some (.int x),some (.int y),some (.int w)] from rfl];rwa [nu];unfold kS at q;have hp:(0:Int)<2 ^ w.toNat:=rc Jkm;refine aB (fun e=>?_) (fun e=>?_)
 ·rw [zq1 e] at q;exact zAF h0 h8 hp q
 rw [zq0 e] at q;refine aB (fun e=>?_) (fun e=>?_)
 ·rw [zq1 e] at q;exact zAF h0 h8 hp q
 rw [zq0 e] at q;refine aB (fun e=>?_) (fun e=>?_)
 ·rw [zq1 e] at q;exact q
 rw [zq0 e] at q;refine aB (fun e=>?_) (fun e=>?_)
 ·rw [zq1 e] at q;exact q
 rw [zq0 e] at q;refine aB (fun e=>?_) (fun e=>?_)
 ·rw [zq1 e] at q;exact q
 rw [zq0 e] at q;refine aB (fun e=>?_) (fun e=>?_)
 ·rw [zq1 e] at q;refine aB (fun e=>?_) (fun e=>?_)
  ·rw [zq1 e] at q;exact q
  ·rw [zq0 e] at q;exact q
 rw [zq0 e] at q;refine aB (fun e=>?_) (fun e=>?_)
 ·rw [zq1 e] at q;exact q
 ·rw [zq0 e] at q;exact q
def nA(K:W.Frag):Sp:=fun vs H Q _=>∃(o:Opd)(bx:Addr)(b:Bx)(ns:List Str)(w:Int),vs=[o.v,.ref bx]/\H bx=some (.dK b)/\BxG ns w b/\Opd.good ns w o/\Q (.int (gi b o)) H
def BL(K:W.Frag)(a:Addr)(bx:Addr)(w:Int)(H:Hp)(Q:VK):Prop:=∃(d:Deed)(b:Bx)(ns:List Str),SqT K H a d.vs/\H bx=some (.dK b)/\BxG ns w b/\d.fine/\Deed.good ns w d/\1<=w/\w<=8/\∀H',Same H H'->Q (.int (j5 b w d)) H'
def vg(K:W.Frag):Sp:=fun vs H Q _=>∃(a:Addr)(bx:Addr)(w:Int),vs=[.ref a,.ref bx,.int w]/\BL K a bx w H Q
theorem Cv(T:Txt K mg t):FnOk P w K mg base CX0 1 t.f_127 t.e_127 ["operand","boxes"] (nA K):=by
 refine T.d_127.F.ok HG ∅ ?_;rintro cdv A outer s H vs Q E hr ⟨o,bx,b,ns,w,rfl,hB,hG,ho,q⟩;have hu:=fi hr;refine ⟨_,
   (XSs.h
   (ak
    (aw (cD (d9 (aL jE gl T.z_isinstance boot_isinstance (aa (yqv 0 vl) (aa (kJ (v:=.ty "str") gl T.z_str boot_str rfl) ae)))) (cT hu (yqv 1 vl) (yqv 0 vl) (fun _ _=>rfl)) (yqv 0 vl))))),?_⟩
 rw [show aO _ [o.v,V.ref bx]=[some o.v,some (.ref bx)] from rfl];rwa [];refine mR (zn _ rfl ?_)
 cases o with
 |box n=>exact zAA bx _ rfl (.inl (zAA b (.inr n) (.inl hB) rfl (hG.val ho).symm)) q
 |word i=>exact q
theorem ko{o:Opd}{bx:Addr}{H:Hp}{Q:VK}{E:XK}:nA K [o.v,.ref bx] H Q E=∃(b:Bx)(ns:List Str)(w:Int),H bx=some (.dK b)/\BxG ns w b/\Opd.good ns w o/\Q (.int (gi b o)) H:=
 propext ⟨fun ⟨o',_,b,ns,w,e,q⟩=>by
  have e2:o=o':=by
   injection e with e1 _
   cases o<;>cases o'<;>first | (injection e1 with e1;rw [e1]) | cases e1
  subst e2;injection e with _ e;injection e with e _;injection e with e;subst e;exact zAJ b ns w q,fun ⟨b,ns,w,q⟩=>zAV o bx b ns w ⟨rfl,q⟩⟩
theorem wQ{ns:List Str}{w:Int}{d:Deed}(h:Deed.good ns w d):∀o∈gj d,Opd.good ns w o:=by
 cases d with
 |tell a=>intro o ho;rw [zq10.mp ho];exact h
 |copy n a=>intro o ho;rw [zq10.mp ho];exact h.2
 |op f n a c=>
  intro o ho;rcases zq12.mp ho with z | z
  ·rw [z];exact h.2.2.1
  ·rw [zq10.mp z];exact h.2.2.2
theorem Cr(T:Txt K mg t):FnOk P w K mg base CX0 3 t.f_128 t.e_128 ["deed","boxes","width"] (vg K):=by
 have G_123:=@uC P w K mg base t T;have G_127:=@Cv P w K mg base t T;have G_113:=@pL P w K mg base t T;refine T.d_128.F.ok sc_128 ∅ ?_;rintro cdv A outer s H vs Q E hr ⟨a,bx,w,rfl,d,b,ns,hA,hB,hG,hf,hd,w1,w8,q⟩;refine ⟨_,
   (XSs.h
   (ai
    (ez (i:=3) sc_128.nd rfl ll rfl Jkl (tns:=["operand"]) (cns:=["boxes"]) (ci:=[1]) rfl (CompSc.of Jkl) (vx (au T.d_123 G_123 hr.m (aa (yqv 0 vl) ae) gl)) (fun _=>(aA (i:=1) (show List.Nodup [(".0":Str),("operand":Str),("boxes":Str)] by decide +kernel) rfl ll (Or.inr Jkl))) (fun _=>bY) (fun _=>(au T.d_127 G_127 hr.m (aa (yqv 1 vl) (aa (yqv 2 vc) ae)) gl)))
   (ai
    (aH (ar aT (aL aM gl T.z_len PySem.boot_len (aa (yqv 3 vl) ae)) aj (az _))
     (ak
      (aw (ap aN (yqv 3 vl) aj)))
     aD)
   (ak
    (aw (au T.d_113 G_113 hr.m (aa (ap ay (yqv 0 vl) aj) (aa (ap aN (yqv 3 vl) aj) (aa (ap aN (yqv 3 vl) aj) (aa (yqv 2 vl) ae)))) gl)))))),?_⟩
 rw [show aO _ [V.ref a,V.ref bx,V.int w]=[some (.ref a),some (.ref bx),some (.int w),none] from rfl];rwa [zP];refine zAC d hA hf fun p hp=>⟨⟨_,SqT.of ac⟩,fun acc hacc bk=>?_⟩;have s1:Same H (upd H p (.tup ((gj d).map Opd.v))):=Same.upd hp;refine BP (xs:=(gj d).map Opd.v) (fun x=>match x with | .int i=>.int i | .str n=>.int (b8 b n) | _=>.non) (by rw [zq8,zq3];have:=pO (d:=d);omega) (SqT.of ac) hacc (fun x hm H3 Q' s3 h=>?_) ?_
 ·obtain ⟨o,ho,rfl⟩:=zq36.mp hm;rwa [ko];refine zAO b ns w (s3 _ _ (s1 _ _ hB)) hG (wQ hd o ho) ?_
  cases o<;>exact h
 ·have em:List.map (fun x:V=>match x with | .int i=>V.int i | .str n=>V.int (b8 b n) | _=>V.non) ((gj d).map Opd.v)=(gj d).map fun o=>V.int (gi b o):=by
   rw [fJ];refine tF fun o _=>?_
   cases o<;>rfl
  rw [em];have s2:=s1.updN (o:=.lst ((gj d).map fun o=>V.int (gi b o))) hacc;have hA2:=s2.seqT hA;have hL:upd (upd H p (.tup ((gj d).map Opd.v))) acc (.lst ((gj d).map fun o=>V.int (gi b o))) acc=some (.lst ((gj d).map fun o=>V.int (gi b o))):=ac;have q2:=q _ s2;generalize upd (upd H p (.tup ((gj d).map Opd.v))) acc (.lst ((gj d).map fun o=>V.int (gi b o)))=H2 at s2 hA2 hL q2 ⊢
  cases d with
  |tell o=>exact zn _ (.inl (SqL.of hL)) (aB (fun _=>zAA _ _ (SqL.of hL) rfl q2) (fun e=>absurd rfl e))
  |copy n o=>exact zn _ (.inl (SqL.of hL)) (aB (fun _=>zAA _ _ (SqL.of hL) rfl q2) (fun e=>absurd rfl e))
  |op f n o o2=>refine zn _ (.inl (SqL.of hL)) (aB (fun e=>absurd (show ((2:Nat):Int)=1 from e) Jkm) (fun _=>zAA _ _ hA2 rfl (zAA _ _ (SqL.of hL) rfl (zAA _ _ (SqL.of hL) rfl ?_))));rwa [sG];exact zAB Jlk w8 q2
theorem sF{a bx:Addr}{w:Int}{H:Hp}{Q:VK}{E:XK}:vg K [.ref a,.ref bx,.int w] H Q E=∃(d:Deed)(b:Bx)(ns:List Str),SqT K H a d.vs/\H bx=some (.dK b)/\BxG ns w b/\d.fine/\Deed.good ns w d/\1<=w/\w<=8/\∀H',Same H H'->Q (.int (j5 b w d)) H':=propext ⟨by rintro ⟨_,_,_,e,q⟩;cases e;exact q,fun q=>zAK _ _ _ rfl q⟩
variable {H:Hp} {c:Addr}
def WordsIn(H:Hp)(c:Addr)(ws:Bx)(ins:List Str)(w:Int):Prop:=Rd H c (.dK ws)/\∀n∈ins,∃x,kG ws n=some x/\0<=x/\x<2 ^ w.toNat
theorem WordsIn.get{ws:Bx}{ins:List Str}{w:Int}(h:WordsIn H c ws ins w):∀n∈ins,0<=b8 ws n/\b8 ws n<2 ^ w.toNat:=fun n hn=>by obtain ⟨x,e,h0,h1⟩:=h.2 n hn;unfold b8;rw [e];exact ⟨h0,h1⟩
theorem WordsIn.same{H':Hp}{ws:Bx}{ins:List Str}{w:Int}(h:WordsIn H c ws ins w)(s:Same H H'):WordsIn H' c ws ins w:=⟨by
 rcases h.1 with z | ⟨o,z⟩
 ·exact .inl (s _ _ z)
 ·exact .inr ⟨o,s _ _ z⟩,h.2⟩
def xM(K:W.Frag)(C:Addr)(p:Addr)(c:Addr)(H:Hp)(Q:VK):Prop:=∃(wd:Int)(ins:List Str)(oth:List Str)(ss:List Stm)(a:Addr)(b:Addr)(r:Addr)(xs:List V)(f:List Addr)(ws:Bx),ProgAt K C H p wd ins oth ss a b r xs f/\WordsIn H c ws ins wd/\(ins++oth).length<=1000/\
 ∀l H',Same H H'->H l=none->H' l=some (.dK (bj ins ws (ins++oth)))->Q (.ref l) H'
def q5(K:W.Frag)(C:Addr):Sp:=fun vs H Q _=>∃(p:Addr)(c:Addr),vs=[.ref p,.ref c]/\xM K C p c H Q
theorem yM(T:Txt K mg t):FnOk P w K mg base CX0 1 t.f_136 t.e_136 ["program","words"] (q5 K t.C_Program):=by
 refine T.d_136.F.ok sc_136 ∅ ?_;rintro cdv A outer s H vs Q E hr ⟨p,c,rfl,wd,ins,oth,ss,a,b,r,xs,f,ws,hP,hW,hl,q⟩;have hu:=fi hr;refine ⟨_,
   (XSs.h
   (ai
    (aq (i:=2) sc_136.nd rfl ll g8)
   (ai
    (br PassesOwn.never rfl (aY (b9 (yqv 0 vl) rfl)) (aA (i:=3) sc_136.nd rfl ll)
     (ak
      (dq hu (yqv 2 vl) (yqv 3 vl) (cD (ar dM (yqv 3 vl) (b9 (yqv 0 vl) rfl) rfl) (cT hu (yqv 1 vl) (yqv 3 vl) (fun _ _=>rfl)) aj) rfl)))
   (ak
    (aw (yqv 2 vl)))))),?_⟩
 rw [show aO _ [V.ref p,V.ref c]=[some (.ref p),some (.ref c),none,none] from rfl];rwa [];intro l hl0;have s1:Same H (upd H l (.dK [])):=Same.upd hl0;obtain ⟨dx,hob⟩:=hP.ob;refine df (s1 _ _ hob) T.c_Program.cl T.n_Program_boxes rfl ?_;refine zAC b rfl ⟨_,SqL.of (s1 _ _ hP.bx)⟩ ?_;refine dD (xs:=(ins++oth).map V.str) (fun i σ H'=>Same H H'/\H' l=some (.dK (bj ins ws ((ins++oth).take i)))/\∃o,σ=[some (.ref p),some (.ref c),some (.ref l),o])
  (zAB s1 ac ⟨_,rfl⟩) (fun i σ H' _ h=>SqL.of (h.1 _ _ hP.bx)) ?_ ?_
 ·rintro i x σ H' hx ⟨sm,hd,o,rfl⟩;rw [bE] at hx;obtain ⟨n,hn,rfl⟩:=zq42.mp hx;obtain ⟨hi,hne⟩:=zq11.mp hn;rwa [];obtain ⟨dx,hob⟩:=hP.ob;refine df (sm _ _ hob) T.c_Program.cl T.n_Program_ins rfl ?_;rwa [];have en:bj ins ws ((ins++oth).take (i+1))=bo (bj ins ws ((ins++oth).take i)) (.inr n) (.int (if n∈ins then b8 ws n else 0)):=by rw [dy hi,hne,fw]
  have lb:(bj ins ws ((ins++oth).take i)).length<sizeLine:=by have:=(lJ hW.get _ ((ins++oth).take i) rfl).2.1;rw [dw] at this;rw [zq8];omega
  refine zAG _ (.inl (SqL.of (sm _ _ hP.ia))) rfl fQ ?_;rw [gT];refine aB (fun e=>?_) (fun e=>?_)
  ·obtain ⟨x,hx,_⟩:=hW.2 n e;have hx2:b8 ws n=x:=by unfold b8;rw [hx];rfl
   rw [zq1 e,hx2] at en;refine zAA c (.int x) rfl (.inl (zAA ws (.inr n) (hW.same sm).1 rfl (AN hx).symm)) (zAG _ (DPut.k (k:=.inr n) hd lb) (sm.updM hl0) ?_ ⟨_,rfl⟩);rw [ac,en]
  ·rw [zq0 e] at en;refine zAG _ (DPut.k (k:=.inr n) hd lb) (sm.updM hl0) ?_ ⟨_,rfl⟩;rw [ac,en]
 ·rintro σ H' ⟨sm,hd,o,rfl⟩;rwa [];rw [zq3,dZ] at hd;exact q l H' sm hl0 hd
theorem uP{C p:Addr}{Q:VK}{E:XK}:q5 K C [.ref p,.ref c] H Q E=∃(wd:Int)(ins oth:List Str)(ss:List Stm)(a b r:Addr)(xs:List V)(f:List Addr)(ws:Bx),ProgAt K C H p wd ins oth ss a b r xs f/\WordsIn H c ws ins wd/\(ins++oth).length<=1000/\
  ∀l H',Same H H'->H l=none->H' l=some (.dK (bj ins ws (ins++oth)))->Q (.ref l) H':=propext ⟨by rintro ⟨_,_,e,q⟩;cases e;exact q,fun q=>zAD _ _ rfl q⟩
def aQ(ds:List FB.Deed)(j k:Nat):Option Int:=match ds[j]?,ds[k]? with
 |some d,some e=>FB.oT d e
 |_,_=>none
def Ag(K:W.Frag):Sp:=fun vs H Q _=>∃(a:Addr)(xs:List V)(ds:List FB.Deed)(j k:Nat)(d e:FB.Deed),vs=[.ref a,.int j,.int k]/\SqL K H a xs/\DeedsV K H xs ds/\j<k/\ds[j]?=some d/\ds[k]?=some e/\∀H',Same H H'->Q (FB.nh (FB.oT d e)) H'
def vj(K:W.Frag):Sp:=fun vs H Q _=>∃(a:Addr)(d:FB.Deed),vs=[.ref a]/\SqT K H a d.vs/\d.fine/\∀p H',Same H H'->H p=none->H' p=some (.lst (d.reads.map V.str))->Q (.ref p) H'
theorem sj{d:FB.Deed}:List.map id (List.filter jT ((gj d).map FB.Opd.v))=d.reads.map V.str:=by
 cases d with
 |tell o=>exact ue
 |copy n o=>exact ue
 |op f n o o2=>exact yh
theorem Ct(T:Txt K mg t):FnOk P w K mg base CX0 2 t.f_124 t.e_124 ["deed"] (vj K):=by
 have G_123:=@uC P w K mg base t T;refine T.d_124.F.ok HD ∅ ?_;rintro cdv A outer s H vs Q E hr ⟨a,d,rfl,hS,hf,q⟩;refine ⟨_,
   (XSs.h
   (ak
    (aw (bI (tns:=["part"]) (cns:=[]) (ci:=[]) rfl (CompSc.of Jkl) (vx (au T.d_123 G_123 hr.m (aa (yqv 0 vl) ae) gl)) (fun _=>(aA (i:=1) (show List.Nodup [(".0":Str),("part":Str)] by decide +kernel) rfl ll (Or.inr Jkl))) (fun _=>(nJ (d9 (aL jE gl T.z_isinstance boot_isinstance (aa (yqv 1 vl) (aa (kJ (v:=.ty "str") gl T.z_str boot_str rfl) ae)))))) (fun _=>(yqv 1 vl)))))),?_⟩
 rw [show aO _ [V.ref a]=[some (.ref a)] from rfl];rwa [zP];refine zAC d hS hf fun p hp=>⟨⟨_,SqT.of ac⟩,fun acc hacc bk=>?_⟩;refine oy jT id (by rw [zq8,zq3];have:=pO (d:=d);omega) (SqT.of ac) hacc (fun x hm H3 Q' s3 h=>?_) (fun x hm H3 Q' s3 _ h=>?_) ?_
 ·obtain ⟨o,_,rfl⟩:=zq36.mp hm;rwa [];exact mR (zn _ rfl h)
 ·rwa [];exact h
 ·rw [sj];exact q acc _ ((Same.upd hp).trans (Same.upd hacc)) ((Same.upd hp).free hacc) ac
theorem zR{a:Addr}{H:Hp}{Q:VK}{E:XK}:vj K [.ref a] H Q E=∃d:FB.Deed,SqT K H a d.vs/\d.fine/\∀p H',Same H H'->H p=none->H' p=some (.lst (d.reads.map V.str))->Q (.ref p) H':=propext ⟨by rintro ⟨_,d,e,q⟩;cases e;exact ⟨d,q⟩,by rintro ⟨d,q⟩;exact zAD a d rfl q⟩
theorem yt{d:FB.Deed}{ns:List Str}:inV (wrV d) (ns.map V.str)=decide (∃n∈d.writes,n∈ns):=by
 have hn:∀ns:List Str,inV .non (ns.map V.str)=false:=fun ns=>by
  induction ns with
  |nil=>rfl
  |cons m ns ih=>unfold inV at ih ⊢;rw [ce,qW,ih];rfl
 cases d with
 |tell o=>show inV .non _=_;rw [hn];simp [FB.Deed.writes]
 |copy n o=>show inV (.str n) _=_;rw [gT];simp [FB.Deed.writes]
 |op f n o o2=>show inV (.str n) _=_;rw [gT];simp [FB.Deed.writes]
theorem Fy(T:Txt K mg t):FnOk P w K mg base CX0 10 t.f_129 t.e_129 ["deeds","j","k"] (Ag K):=by
 have G_124:=@Ct P w K mg base t T;have G_125:=@gH P w K mg base t T;refine T.d_129.F.ok sc_129 ∅ ?_;rintro cdv A outer s H vs Q E hr ⟨a,xs,ds,j,k,d,e,rfl,hS,hds,hjk,hd,he,q⟩;refine ⟨_,
   (XSs.h
   (ai
    (aq (i:=3) sc_129.nd rfl ll (ap aN (yqv 0 vl) (yqv 1 vl)))
   (ai
    (aq (i:=4) sc_129.nd rfl ll (ap aN (yqv 0 vl) (yqv 2 vl)))
   (ai
    (aH (cE (cK (ar aT (ap ay (yqv 3 vl) aj) aC (az _)) (cB (ar aT (ap ay (yqv 4 vl) aj) aC (az _)))))
     (ak
      (aw aj))
     aD)
   (ai
    (aq (i:=5) sc_129.nd rfl ll (au T.d_125 G_125 hr.m (aa (yqv 3 vl) ae) gl))
   (ai
    (aH (cE (cK (ar gZ (yqv 5 vl) cx (az _)) (cB (cE (iU (ar dM (yqv 5 vl) (au T.d_124 G_124 hr.m (aa (yqv 4 vl) ae) gl) rfl) (ir (ar aT (yqv 5 vl) (au T.d_125 G_125 hr.m (aa (yqv 4 vl) ae) gl) (az _))))))))
     (ak
      (aw aj))
     aD)
   (ak
    (aw (cD (ar dM (au T.d_125 G_125 hr.m (aa (yqv 4 vl) ae) gl) (au T.d_124 G_124 hr.m (aa (yqv 3 vl) ae) gl) rfl) aj cx))))))))),?_⟩
 rw [show aO _ [V.ref a,V.int j,V.int k]=[some (.ref a),some (.int j),some (.int k),none,none,none] from rfl];rwa [zR,dN];obtain ⟨x,hx,fd,qx,rfl,hqx⟩:=Paired.getR hds hd;obtain ⟨y,hy,fe,qy,rfl,hqy⟩:=Paired.getR hds he;refine zAA _ _ hS (bq hx) (zAA _ _ hS (bq hy) ?_);rwa [zR,dN];have fl:∀d:FB.Deed,bG (wrV d)=true:=fun d=>by cases d<;>rfl
 have nw:∀d:FB.Deed,(! decide (wrV d=V.non))=! d.tells:=fun d=>by cases d<;>rfl
 have last:∀H1,Same H H1->¬(d.tells=true/\e.tells=true)->¬(∃n∈d.writes,n∈e.reads\/n∈e.writes)->∃d0:FB.Deed,SqT K H1 qy d0.vs/\d0.fine/\∃d1:FB.Deed,SqT K H1 qx d1.vs/\d1.fine/\
   ∀p H2,Same H1 H2->H1 p=none->H2 p=some (.lst (d1.reads.map V.str))->∃xs,(SqL K H2 p xs\/SqT K H2 p xs)/\bG (wrV d0)=true/\xs.all bG=true/\if inV (wrV d0) xs=true then Q (.int 0) H2 else Q .non H2:=by
  intro H1 s1 h1 h2;refine zAC e (s1.seqT hqy) fe (zAC d (s1.seqT hqx) fd fun p H2 s2 hp hl=>zAG _ (.inl (SqL.of hl)) (fl e) fQ ?_);rw [yt];unfold FB.oT at q;rw [zq0 h1,zq0 h2] at q;refine aB (fun h=>?_) (fun h=>?_)
  ·rw [zq1 h] at q;exact q _ (s1.trans s2)
  ·rw [zq0 h] at q;exact q _ (s1.trans s2)
 have wrm:∀(d e:FB.Deed),d.tells=false->(wrV d=wrV e↔∃n∈d.writes,n∈e.writes):=fun d e h=>by cases d<;>cases e<;>simp [wrV,FB.Deed.writes,FB.Deed.tells] at h ⊢
 refine ix0 fd hqx (zn _ rfl (jU (fun e1=>ix0 fe hqy (zn _ rfl (jU (fun e2=>?_) (fun e2=>?_)))) (fun e1=>?_)))
 ·unfold FB.oT at q;rw [zq1 ⟨e1,e2⟩] at q;exact q H (Same.refl H)
 ·have nt:¬(d.tells=true/\e.tells=true):=fun z=>by rw [e2] at z;exact bw z.2
  refine zAC d hqx fd ?_;rw [nw,e1];refine last H (Same.refl H) nt ?_;rw [JH e1];simp
 ·have nt:¬(d.tells=true/\e.tells=true):=fun z=>by rw [e1] at z;exact bw z.1
  refine zAC d hqx fd ?_;rw [nw,e1];refine zAC e hqy fe fun p H2 s2 hp hl=>zAG _ (.inl (SqL.of hl)) (fl d) fQ ?_;rw [yt];refine aB (fun h=>?_) (fun h=>zAC e (s2.seqT hqy) fe ?_)
  ·unfold FB.oT at q;obtain ⟨n,h1,h2⟩:=h;rw [zq0 nt,zq1 ⟨n,h1,.inl h2⟩] at q;exact q _ s2
  refine ⟨by cases d<;>cases e<;>rfl,zn _ rfl (aB (fun h2=>?_) (fun h2=>?_))⟩
  ·unfold FB.oT at q;obtain ⟨n,h3,h4⟩:=(wrm d e e1).mp h2;rw [zq0 nt,zq1 ⟨n,h3,.inr h4⟩] at q;exact q _ s2
  ·refine last H2 s2 nt ?_;rintro ⟨n,h3,h4 | h4⟩
   ·exact h (zn n h3 h4)
   ·exact h2 ((wrm d e e1).mpr (zn n h3 h4))
def md:FB.Deed->Nat
 | .op f _ _ _=>if f∈(["plus","less"]:List Str) then 0 else if f∈(["below","same"]:List Str) then 1 else if f∈(["and","or","xor"]:List Str) then 2 else 3
 |_=>3
def sV(d:FB.Deed):V:=if md d<3 then .int (md d) else .non
def Il(ds:List FB.Deed)(p:Int):FB.Deed:=ds.getD p.toNat (.tell (.word 0))
theorem Ac{d:FB.Deed}(h:d.fine):∃f:Str,atI d.vs 0=some (.str f)/\(bh kvs_SORTS (.inr f)).getD .non=sV d:=by
 cases d with
 |tell o=>exact zn ("tell") rfl Jkl
 |copy n o=>exact zn ("copy") rfl Jkl
 |op f n o o2=>refine zn f rfl ?_;have h:f∈FB.opsL:=h;simp only [FB.opsL,List.mem_cons,List.not_mem_nil,or_false] at h;rcases h with rfl | rfl | rfl | rfl | rfl | rfl | rfl<;>kernel_rfl
theorem Ip{d:FB.Deed}{s:Nat}(h:s<3):eqV (sV d) (.int s)=decide (md d=s):=by
 unfold sV
 split
 ·rw [FL.mK,iX,nP,nP];omega
 ·rw [bC Jlk];rfl
def mj(K:W.Frag):Sp:=fun vs H Q _=>∃(a:Addr)(d:FB.Deed),vs=[.ref a]/\SqT K H a d.vs/\d.fine/\Q (sV d) H
theorem wL(T:Txt K mg t)(hw:t.pr=w.params):FnOk P w K mg base CX0 1 t.f_126 t.e_126 ["deed"] (mj K):=by
 refine T.d_126.F.ok HF ∅ ?_;rintro cdv A outer s H vs Q E hr ⟨a,d,rfl,hS,hf,q⟩;refine ⟨_,
   (XSs.h
   (ak
    (aw (xr hw T.k_SORTS T.g_SORTS gl (ap ay (yqv 0 vl) aj) ⟨rfl,rfl,rfl,rfl⟩)))),?_⟩
 rw [show aO _ [V.ref a]=[some (.ref a)] from rfl];rwa [];obtain ⟨f,hf0,hv⟩:=Ac hf;refine zAA _ _ hS hf0 (zn (.inr f) rfl ?_);rw [hv];exact q
theorem kn{a:Addr}{H:Hp}{Q:VK}{E:XK}:mj K [.ref a] H Q E=∃d:FB.Deed,SqT K H a d.vs/\d.fine/\Q (sV d) H:=propext ⟨by rintro ⟨_,d,e,q⟩;cases e;exact ⟨d,q⟩,by rintro ⟨d,q⟩;exact zAD a d rfl q⟩
variable {H:Hp} {Q:VK} {a p:Addr} {i:Nat}
def nl(ps:List Nat):List V:=ps.map fun p:Nat=>V.int p
def soN(ds:List FB.Deed)(p:Nat):Nat:=md (ds.getD p (.tell (.word 0)))
def uN(us:List Int)(s:Nat):Int:=us.getD s 0
theorem jR{j:Nat}:∀{ps:List Nat},inV (.int j) (nl ps)=decide (j∈ps)
 | []=>rfl
 |p::ps=>by have ih:=jR (j:=j) (ps:=ps);unfold inV nl at ih ⊢;rw [ce,qW,ih,FL.mK,iX];simp only [Bool.or_eq_true,decide_eq_true_eq,List.mem_cons];exact ⟨fun h=>h.imp (fun e=>Jlk) id,fun h=>h.imp (fun e=>Jlk) id⟩
theorem fP:∀{ps:List Nat},(nl ps).all bG=true
 | []=>rfl
 |p::ps=>by have ih:=fP (ps:=ps);unfold nl at ih ⊢;rw [ce,tD,ih];rfl
theorem IG{ps:List Nat}{p:Nat}(h:ps[i]?=some p):(nl ps)[i]?=some (V.int p):=by unfold nl;rw [bE,h];rfl
theorem eZ{ps:List Nat}:(nl ps).length=ps.length:=by unfold nl;rw [zq3]
theorem A6{ds:List FB.Deed}{p:Nat}(h:p<ds.length):(ds.map sV)[p]?=some (sV (ds.getD p (.tell (.word 0)))):=by rw [bE,zq6 h,cw,zq6 h];rfl
theorem Fb{ds:List FB.Deed}{bt:List Nat}{s:Nat}(h:s<3):BU (.int s) (bt.map fun p=>sV (ds.getD p (.tell (.word 0))))=GD.fq (soN ds) bt s:=by unfold BU GD.fq;rw [Bl];apply List.countP_congr;intro p _;show eqV (sV (ds.getD p (.tell (.word 0)))) (.int s)=true↔_;rw [Ip h];rfl
theorem C3{d:FB.Deed}:bG (sV d)=true:=by unfold sV;split<;>rfl
def IA(b so gp:Addr):List (Str×V):=[("units",.ref b),("sorts",.ref so),("gaps",.ref gp)]
structure LayerH(K:W.Frag)(C:Addr)(H:Hp)(p:Addr)(ds:List FB.Deed)(us:List Int):Prop where
 ob:∃(dx b so gp:Addr)(qs:List Addr),H p=some (.ins C dx (IA b so gp))/\SqT K H b (us.map V.int)/\H so=some (.lst (ds.map sV))/\H gp=some (.lst (qs.map V.ref))/\qs.length=ds.length/\∀(k:Nat)q,qs[k]?=some q->H q=some (.lst ((List.range k).map fun j=>FB.nh (aQ ds j k)))
 h8:ds.length<=8
 h3:us.length=3
 hp:∀u∈us,0<u/\u<=3
theorem LayerH.same{K:W.Frag}{C:Addr}{H':Hp}{ds:List FB.Deed}{us:List Int}(s:Same H H')(h:LayerH K C H p ds us):LayerH K C H' p ds us:=
 ⟨let ⟨dx,b,so,gp,qs,e1,e2,e3,e4,e5,e6⟩:=h.ob;(zAZ dx b so gp qs (s _ _ e1) (s.seqT e2) (s _ _ e3) (s _ _ e4) e5 fun k q hk=>s _ _ (e6 k q hk)),h.h8,h.h3,h.hp⟩
theorem LayerH.pos{K:W.Frag}{C:Addr}{ds:List FB.Deed}{us:List Int}(h:LayerH K C H p ds us):∀s,s<3->0<uN us s:=fun s hs=>by have hl:=h.h3;unfold uN;rw [cw,zq6 Jlk];exact (h.hp _ (iz _)).1
def tJ(K:W.Frag)(C:Addr)(p d b:Addr)(i:Int)(H:Hp)(Q:VK):Prop:=∃(ds:List FB.Deed)(us:List Int)(dn bt:List Nat)(pl:Nat),i=pl/\LayerH K C H p ds us/\SqT K H d (nl dn)/\SqL K H b (nl bt)/\pl<ds.length/\(∀q∈bt,q<ds.length)/\bt.length<=8/\∀H',Same H H'->Q (.bl (GD.bS (aQ ds) (soN ds) (uN us) dn bt pl)) H'
def v0(K:W.Frag)(C:Addr):Sp:=fun vs H Q _=>∃(p d b:Addr)(i:Int),vs=[.ref p,.ref d,.ref b,.int i]/\tJ K C p d b i H Q
theorem ki{C d b:Addr}{i:Int}{E:XK}:v0 K C [.ref p,.ref d,.ref b,.int i] H Q E=tJ K C p d b i H Q:=propext ⟨by rintro ⟨_,_,_,_,e,q⟩;cases e;exact q,fun q=>zAP p d b i rfl q⟩
theorem kj{i j:Int}{E:XK}:Ag K [.ref a,.int i,.int j] H Q E=∃(xs:List V)(ds:List FB.Deed)(m k:Nat),i=m/\j=k/\SqL K H a xs/\DeedsV K H xs ds/\m<k/\k<ds.length/\∀H',Same H H'->Q (FB.nh (aQ ds m k)) H':=propext ⟨by
  rintro ⟨_,xs,ds,m,k,d,e,ev,h1,h2,h3,h4,h5,q⟩
  cases ev
  refine zBA xs ds m k rfl rfl h1 h2 h3 (zq11.mp h5).1 ?_;unfold aQ;rw [h4,h5];exact q,by
  rintro ⟨xs,ds,m,k,rfl,rfl,h1,h2,h3,h4,q⟩;obtain ⟨d,hd⟩:∃d,ds[m]?=some d:=⟨_,zq6 Jlk⟩
  obtain ⟨e,he⟩:∃e,ds[k]?=some e:=⟨_,zq6 h4⟩
  refine zBF a xs ds m k d e rfl h1 h2 h3 hd he ?_;unfold aQ at q;rw [hd,he] at q;exact q⟩
theorem ixL{xs:List V}{v:V}(h:SqL K H a xs)(hv:xs[i]?=some v)(q:Q v H):Gh K (.ref a) (.int i) H Q:=by rwa [];exact zAA _ _ h (bq hv) q
theorem ixT{xs:List V}{v:V}(h:SqT K H a xs)(hv:xs[i]?=some v)(q:Q v H):CN K (.ref a) (.int i) H Q:=by rwa [];exact zAA _ _ h (bq hv) q
theorem uz(T:Txt K mg t):FnOk P w K mg base CX0 1 t.f_135 t.e_135 ["self","done","beat","place"] (v0 K t.C_Layer):=by
 refine T.d_135.F.ok sc_135 ∅ ?_;rintro cdv A outer s H vs Q E hr ⟨p,d,b,i,rfl,ds,us,dn,bt,pl,rfl,L,hD,hB,hpl,hbt,hlb,q⟩;obtain ⟨dx,ub,sb,gb,qs,hob,hU,hSo,hGp,hql,hq⟩:=L.ob;have h3:=L.h3;refine ⟨_,
   (XSs.h
   (ai
    (aq (i:=4) sc_135.nd rfl ll (ap aN (b9 (yqv 0 vc) rfl) (yqv 3 vl)))
   (c9
    (aH (cE (cK (ar gZ (yqv 4 vl) cx (az _)) (cB (ar aT (c7 PySem.F.plainAttrs_list PySem.F.slot_list_count PySem.F.type_list_count yB (bI (tns:=["other"]) (cns:=["self"]) (ci:=[0]) rfl (CompSc.of Jkl) (aY (yqv 2 vl)) (fun _=>(aA (i:=1) (show List.Nodup [(".0":Str),("other":Str),("self":Str)] by decide +kernel) rfl ll (Or.inr Jkl))) (fun _=>bY) (fun _=>(ap aN (b9 (yqv 2 vc) rfl) (yqv 1 vl)))) (aa (yqv 4 vl) ae)) (ap ay (b9 (yqv 0 vc) rfl) (yqv 4 vl)) (az _)))))
     (ak
      (aw iS))
     aD)
   (ai
    (br PassesOwn.never rfl (kI T.z_enumerate (aa (ap aN (b9 (yqv 0 vc) rfl) (yqv 3 vl)) ae) gl) (eo rfl (aV (aA (i:=5) sc_135.nd rfl ll) (aV (aA (i:=6) sc_135.nd rfl ll) dk)))
     (ai
      (aq (i:=7) sc_135.nd rfl ll (Ib (bQ dM (yqv 5 vl) (yqv 1 vl) rfl) (jA (nH (bQ aT (yqv 6 vl) aj (az _)) (jA (bQ dM (yqv 5 vl) (yqv 2 vl) rfl))))))
     (ak
      (aH (cE (cK (ar gZ (yqv 6 vl) cx (az _)) (cB (iq (d9 (yqv 7 vl))))))
       (ak
        (aw iS))
       aD))))
   (ak
    (aw iS)))))),?_⟩
 rw [show aO _ [V.ref p,V.ref d,V.ref b,V.int pl]=[some (.ref p),some (.ref d),some (.ref b),some (.int pl),none,none,none,none] from rfl];simp_arith! [];refine df hob T.c_Layer.cl T.n_Layer_sorts rfl (ixL (SqL.of hSo) (A6 hpl) ?_);refine later ?_;simp_arith! [];refine zn (fun σ H'=>Same H H'/\(soN ds pl<3->(GD.fq (soN ds) bt (soN ds pl):Int)≠uN us (soN ds pl))/\σ=[some (.ref p),some (.ref d),some (.ref b),some (.int pl),some (sV (ds.getD pl (.tell (.word 0)))),none,none,none]) ?_ ?_
 ·by_cases hs:soN ds pl<3
  ·have e:sV (ds.getD pl (.tell (.word 0)))=.int (soN ds pl):=zq1 hs;rw [e];rwa [];refine ⟨⟨_,hB⟩,fun acc hacc bk=>?_⟩;refine oA (fun _=>true) (fun x=>sV (Il ds (match x with | .int i=>i | _=>0))) (by rw [eZ,zq8];omega) hB hacc (fun x _ H2 Q' s2 h=>h H2 (Same.refl _)) (fun x hx H2 Q' s2 _ h=>?_) fun H2 s2 hacc2=>?_
   ·obtain ⟨qp,hqm,rfl⟩:=zq36.mp hx;rwa [];exact df (s2 _ _ hob) T.c_Layer.cl T.n_Layer_sorts rfl (ixL (SqL.of (s2 _ _ hSo)) (A6 (hbt qp hqm)) (h H2 (Same.refl _)))
   ·rw [eT] at hacc2;have el:List.map (fun x=>sV (Il ds (match x with | .int i=>i | _=>0))) (nl bt)=bt.map fun p=>sV (ds.getD p (.tell (.word 0))):=by unfold nl;rw [fJ];rfl
    rw [el] at hacc2;have hu:(us.map V.int)[soN ds pl]?=some (V.int (uN us (soN ds pl))):=by unfold uN;rw [bE,zq6 Jlk,cw,zq6 Jlk];rfl
    refine ⟨.inl ⟨rfl,_,SqL.of hacc2⟩,zAG _ (SqL.of hacc2) rfl ?_ ?_⟩
    ·rw [List.all_map,zq44];exact fun x _=>C3
    refine df (s2 _ _ hob) T.c_Layer.cl T.n_Layer_units rfl (ixT (s2.seqT hU) hu ?_);rw [Fb hs];rwa [];refine aB (fun z=>?_) (fun z=>⟨s2,fun _=>z⟩);have hf:GD.bS (aQ ds) (soN ds) (uN us) dn bt pl=false:=by
     cases hf:GD.bS (aQ ds) (soN ds) (uN us) dn bt pl with
     |false=>rfl
     |true=>exact absurd z ((GD.fits_iff.mp hf).1 hs)
    rw [hf] at q;exact q H2 s2
  ·have e:sV (ds.getD pl (.tell (.word 0)))=.non:=zq0 hs;rw [e];rwa [];exact ⟨Same.refl H,fun z=>absurd z hs⟩
 ·rintro σ H1 ⟨s1,hc,rfl⟩;refine later ?_;obtain ⟨gq,hgq⟩:∃gq,qs[pl]?=some gq:=⟨_,zq6 Jlk⟩
  have hG:=hq pl gq hgq;rwa [];refine df (s1 _ _ hob) T.c_Layer.cl T.n_Layer_gaps rfl (ixL (SqL.of (s1 _ _ hGp)) (v:=.ref gq) (by rw [bE,hgq];rfl) (zAC gq rfl ⟨_,SqL.of (s1 _ _ hG)⟩ ?_));refine mM (xs:=(List.range pl).map fun j=>FB.nh (aQ ds j pl)) (fun i σ H'=>Same H H'/\(∀j,j<i->GD.cP (aQ ds) dn bt pl j=true)/\∃o5 o6 o7,σ=[some (.ref p),some (.ref d),some (.ref b),some (.int pl),some (sV (ds.getD pl (.tell (.word 0)))),o5,o6,o7]) (zAB s1 (fun j hj=>absurd hj Jlk) (zAJ _ _ _ rfl)) (fun i σ H' _ h=>SqL.of (h.1 _ _ hG)) ?_ ?_
  ·rintro i x σ H2 pp hx hpp ⟨s2,hah,o5,o6,o7,rfl⟩;have hi:i<pl:=by have:=(zq11.mp hx).1;rwa [zq3,eg] at this
   rw [bE,qT hi] at hx
   cases hx
   have s3:Same H (upd H2 pp (.tup [.int i,FB.nh (aQ ds i pl)])):=s2.updN hpp;rwa [];refine zAC _ (SqT.of ac) rfl ?_;have ih:GD.cP (aQ ds) dn bt pl i=true->∀j,j<i+1->GD.cP (aQ ds) dn bt pl j=true:=fun h j hj=>by
    by_cases e:j=i
    ·rw [e];exact h
    ·exact hah j Jlk
   have no:GD.cP (aQ ds) dn bt pl i=false->GD.bS (aQ ds) (soN ds) (uN us) dn bt pl=false:=fun h=>by
    cases hf:GD.bS (aQ ds) (soN ds) (uN us) dn bt pl with
    |false=>rfl
    |true=>have z:=(GD.fits_iff.mp hf).2 i hi;rw [h] at z;cases z
   unfold GD.cP at ih no
   cases hg:aQ ds i pl with
   |none=>
    rw [hg] at ih s3;simp_arith [FB.nh] at s3 ⊢;have ih':=ih rfl;refine zAG _ (.inr (s3.seqT hD)) rfl fP ?_
    split
    ·split<;>exact zAB s3 ih' (zAJ _ _ _ rfl)
    ·refine ⟨rfl,zn _ rfl ?_⟩;rw [show decide (V.non=V.int 0)=false from rfl];simp only [decide_true,Bool.not_true,Bool.false_eq_true,if_false];exact zAB s3 ih' (zAJ _ _ _ rfl)
   |some l=>
    rw [hg] at ih no s3;simp_arith [FB.nh] at s3 ⊢;dsimp only at ih no;refine zAG _ (.inr (s3.seqT hD)) rfl fP ?_;rw [jR,show decide (V.int l=V.non)=false from rfl]
    by_cases h1:i∈dn
    ·rw [zq1 (cf h1)]
     split<;>exact zAB s3 (ih (by simp [h1])) (zAJ _ _ _ rfl)
    ·rw [zq0 (by simp [h1])]
     by_cases h2:l=0
     ·rw [zq1 (cf h2)];refine zAG _ (.inl (s3.seq hB)) rfl fP ?_;rw [jR]
      by_cases h3':i∈bt
      ·simp only [h3',decide_true,Bool.not_true,Bool.not_false,Bool.false_eq_true,if_false,if_true];exact zAB s3 (ih (by simp [h2,h3'])) (zAJ _ _ _ rfl)
      ·simp only [h3',decide_false,Bool.not_true,Bool.not_false,Bool.false_eq_true,if_false,if_true];rw [no (by simp [h1,h3'])] at q;exact q _ s3
     ·rw [zq0 (by simp [h2])];simp only [Bool.not_true,Bool.not_false,Bool.false_eq_true,if_false,if_true];rw [no (by simp [h1,h2])] at q;exact q _ s3
  ·rintro σ H2 ⟨s2,hah,o5,o6,o7,rfl⟩;rw [zq3,eg] at hah;have hf:GD.bS (aQ ds) (soN ds) (uN us) dn bt pl=true:=GD.fits_iff.mpr ⟨hc,hah⟩;rw [hf] at q;rwa [];exact q H2 s2
def mx(K:W.Frag)(H:Hp)(a b:Addr)(ds:List FB.Deed)(us:List Int):Prop:=∃xs,SqL K H a xs/\DeedsV K H xs ds/\ds.length<=8/\SqT K H b (us.map V.int)/\us.length=3/\∀u∈us,0<u/\u<=3
variable {H:Hp}
def LLN(H:Hp)(c:Addr)(bts:List (List Nat)):Prop:=∃ps:List Addr,H c=some (.lst (ps.map V.ref))/\Paired (fun p (b:List Nat)=>H p=some (.lst (nl b))) ps bts
theorem LLN.same{H':Hp}{c:Addr}{bts:List (List Nat)}(s:Same H H')(h:LLN H c bts):LLN H' c bts:=
 let ⟨ps,e,r⟩:=h;(zn ps (s _ _ e) (Paired.mapP r fun _ _ z=>s _ _ z))
theorem Fv{mo r:Addr}{rs:List Addr}{b:List Nat}(h1:H mo=some (.lst (rs.map V.ref)))(h2:H r=some (.lst (nl b)))(hr:r∈rs):r≠mo:=by
 rintro rfl;rw [h1] at h2;have e:rs.map V.ref=nl b:=HO.lst.inj (Option.some.inj h2)
 cases rs with
 |nil=>cases hr
 |cons x xs=>
  cases b with
  |nil=>cases e
  |cons y ys=>
   unfold nl at e;rw [ce,ce] at e
   cases (List.cons.inj e).1
theorem uH{H:Hp}{mo:Addr}{rs:List Addr}{o:HO}(h:H mo=some (.lst (rs.map V.ref))):∀{rs':List Addr} {bs:List (List Nat)},Paired (fun r (b:List Nat)=>H r=some (.lst (nl b))) rs' bs->(∀r∈rs',r∈rs)->Paired (fun r (b:List Nat)=>upd H mo o r=some (.lst (nl b))) rs' bs
 |_,_,.nil,_=>.nil
 |_,_,.cons z t,hm=>.cons (by rw [ao (Fv h z (hm _ Jll))];exact z) (uH h t fun r hr=>hm r (zq9 _ hr))
theorem zu{H:Hp}{mo:Addr}{rs:List Addr}{bs:List (List Nat)}{r:Addr}{b:List Nat}(h:H mo=some (.lst (rs.map V.ref)))(hp:Paired (fun r (b:List Nat)=>H r=some (.lst (nl b))) rs bs)(hr:H r=some (.lst (nl b)))(ne:r≠mo):
  Paired (fun q (b:List Nat)=>upd H mo (.lst (rs.map V.ref++[.ref r])) q=some (.lst (nl b))) (rs++[r]) (bs++[b]):=Paired.snoc (uH h hp fun _ h=>h) (by rw [ao ne];exact hr)
theorem Cg{bt:List Nat}{p:Nat}:nl bt++[V.int p]=nl (bt++[p]):=by unfold nl;rw [cg];rfl
def tQ(K:W.Frag)(C:Addr)(p d b m:Addr)(H:Hp)(Q:VK):Prop:=∃(ds:List FB.Deed)(us:List Int)(dn bt ms:List Nat),LayerH K C H p ds us/\SqT K H d (nl dn)/\SqL K H b (nl bt)/\SqL K H m (nl ms)/\(∀q∈bt,q<ds.length)/\bt.length<=8/\(∀q∈ms,q<ds.length)/\ms.length<=8/\∀H',Same H H'->Q (.bl (GD.jd (aQ ds) (soN ds) (uN us) dn bt ms)) H'
def vk(K:W.Frag)(C:Addr):Sp:=fun vs H Q _=>∃(p d b m:Addr),vs=[.ref p,.ref d,.ref b,.ref m]/\tQ K C p d b m H Q
def nZ(K:W.Frag)(C:Addr)(p d c:Addr)(i:Int)(H:Hp)(Q:VK):Prop:=∃(ds:List FB.Deed)(us:List Int)(dn:List Nat)(bts:List (List Nat)) (pl:Nat),i=pl/\LayerH K C H p ds us/\SqT K H d (nl dn)/\LLN H c bts/\pl<ds.length/\(∀b∈bts,(∀q∈b,q<ds.length)/\b.length<=7)/\bts.length<=1000/\
 ∀c' H',Same H H'->LLN H' c' (GD.bM (aQ ds) (soN ds) (uN us) dn bts pl)->Q (.ref c') H'
def q9(K:W.Frag)(C:Addr):Sp:=fun vs H Q _=>∃(p d c:Addr)(i:Int),vs=[.ref p,.ref d,.ref c,.int i]/\nZ K C p d c i H Q
theorem sH{C p d b m:Addr}{Q:VK}{E:XK}:vk K C [.ref p,.ref d,.ref b,.ref m] H Q E=tQ K C p d b m H Q:=propext ⟨by rintro ⟨_,_,_,_,e,q⟩;cases e;exact q,fun q=>zAP p d b m rfl q⟩
theorem uQ{C p d c:Addr}{i:Int}{Q:VK}{E:XK}:q9 K C [.ref p,.ref d,.ref c,.int i] H Q E=nZ K C p d c i H Q:=propext ⟨by rintro ⟨_,_,_,_,e,q⟩;cases e;exact q,fun q=>zAP p d c i rfl q⟩
def fRm(f:Nat->Bool):V->V
 | .int i=>.bl (f i.toNat)
 |_=>.non
theorem Cu(T:Txt K mg t):FnOk P w K mg base CX0 2 t.f_134 t.e_134 ["self","done","beat","missing"] (vk K t.C_Layer):=by
 have G_135:=@uz P w K mg base t T;refine T.d_134.F.ok HI ∅ ?_;rintro cdv A outer s H vs Q E hr ⟨p,d,b,m,rfl,ds,us,dn,bt,ms,L,hD,hB,hM,hbt,hlb,hms,hlm,q⟩;refine ⟨_,
   (XSs.h
   (ak
    (aw (aL (ot rfl) gl T.z_any boot_any (aa (bI (tns:=["place"]) (cns:=["self","done","beat"]) (ci:=[0,1,2]) rfl (CompSc.of Jkl) (aY (yqv 3 vl)) (fun _=>(aA (i:=1) (show List.Nodup [(".0":Str),("place":Str),("self":Str),("done":Str),("beat":Str)] by decide +kernel) rfl ll (Or.inr Jkl))) (fun _=>bY) (fun _=>(nH (bQ gY (yqv 1 vl) (yqv 4 vc) rfl) (jA (aW T.c_Layer.cl T.d_135 G_135 hr.m (yqv 2 vc) (aa (yqv 3 vc) (aa (yqv 4 vc) (aa (yqv 1 vl) ae)))))))) ae))))),?_⟩
 rw [show aO _ [V.ref p,V.ref d,V.ref b,V.ref m]=[some (.ref p),some (.ref d),some (.ref b),some (.ref m)] from rfl];rwa [ki];refine ⟨⟨_,hM⟩,fun acc hacc bk=>?_⟩;refine oA (fun _=>true) (fRm fun q=>! decide (q∈bt)&&GD.bS (aQ ds) (soN ds) (uN us) dn bt q) (by rw [eZ,zq8];omega) hM hacc (fun x _ H2 Q' s2 h=>h H2 (Same.refl _)) (fun x hx H2 Q' s2 _ h=>?_) fun H2 s2 hacc2=>?_
 ·obtain ⟨qp,hqm,rfl⟩:=zq36.mp hx;rwa [ki];refine zAG _ (.inl (s2.seq hB)) rfl fP ?_;rw [jR];have h':∀H',Same H2 H'->Q' (.bl (! decide (qp∈bt)&&GD.bS (aQ ds) (soN ds) (uN us) dn bt qp)) H':=h;obtain ⟨dx,ub,sb,gb,qs,hob,_⟩:=(L.same s2).ob;refine pd (fun hn=>?_) (fun hn=>?_)
  ·rw [bC hn,Bool.not_false,vG] at h';exact bP hob rfl (zBH ds us dn bt qp rfl (L.same s2) (s2.seqT hD) (s2.seq hB) (hms qp hqm) hbt hlb h')
  ·rw [cf hn,Bool.not_true,AW] at h';exact h' H2 (Same.refl _)
 rw [eT] at hacc2;refine zn (ms.map fun q=>! decide (q∈bt)&&GD.bS (aQ ds) (soN ds) (uN us) dn bt q) (SqL.of ?_) ?_
 ·rw [hacc2];unfold nl;rw [fJ,fJ];rfl
 ·have z:=q H2 s2;unfold GD.jd at z;rw [Bm];exact z
theorem yN(T:Txt K mg t):FnOk P w K mg base CX0 2 t.f_133 t.e_133 ["self","done","beats","place"] (q9 K t.C_Layer):=by
 have G_135:=@uz P w K mg base t T;refine T.d_133.F.ok sc_133 ∅ ?_;rintro cdv A outer s H vs Q E hr ⟨p,d,c,i,rfl,ds,us,dn,bts,pl,rfl,L,hD,hC,hpl,hb,hl,q⟩;obtain ⟨ps,hc,hps⟩:=hC;have lps:=hps.length;refine ⟨_,
   (XSs.h
   (ai
    (aq (i:=4) sc_133.nd rfl ll (aJ ae))
   (ai
    (br PassesOwn.never rfl (aY (yqv 2 vl)) (aA (i:=5) sc_133.nd rfl ll)
     (ai
      (aq (i:=6) sc_133.nd rfl ll (aW T.c_Layer.cl T.d_135 G_135 hr.m (yqv 0 vl) (aa (yqv 1 vl) (aa (yqv 5 vl) (aa (yqv 3 vl) ae)))))
     (c9
      (aH (d9 (yqv 6 vl))
       (ak
        (aR (c7 PySem.F.plainAttrs_list PySem.F.slot_list_append PySem.F.type_list_append aZ (yqv 4 vl) (aa (av f6 (yqv 5 vl) (aJ (aa (yqv 3 vl) ae))) ae))))
       aD)
     (ak
      (aH (cE (iU (iq (d9 (yqv 6 vl))) (ir (ar gZ (ap aN (b9 (yqv 0 vl) rfl) (yqv 3 vl)) cx (az _)))))
       (ak
        (aR (c7 PySem.F.plainAttrs_list PySem.F.slot_list_append PySem.F.type_list_append aZ (yqv 4 vl) (aa (yqv 5 vl) ae))))
       aD)))))
   (ak
    (aw (yqv 4 vl)))))),?_⟩
 rw [show aO _ [V.ref p,V.ref d,V.ref c,V.int pl]=[some (.ref p),some (.ref d),some (.ref c),some (.int pl),none,none,none] from rfl];rwa [ki];intro mo hmo;refine ⟨⟨_,SqL.of (Same.upd hmo _ _ hc)⟩,?_⟩;refine dD (xs:=ps.map V.ref) (fun i σ H'=>Same H H'/\∃(rs:List Addr)(o5 o6:Option V),σ=[some (.ref p),some (.ref d),some (.ref c),some (.int pl),some (.ref mo),o5,o6]/\H' mo=some (.lst (rs.map V.ref))/\Paired (fun p (b:List Nat)=>H' p=some (.lst (nl b))) rs (GD.bM (aQ ds) (soN ds) (uN us) dn (bts.take i) pl)) ⟨Same.upd hmo,zAN ([]) none none rfl ac .nil⟩ (fun i σ H' _ h=>SqL.of (h.1 _ _ hc)) ?_ ?_
 ·rintro i x σ H1 hx ⟨s1,rs,o5,o6,rfl,hm1,hrs⟩;rw [bE] at hx;obtain ⟨bp,hbp,rfl⟩:=zq42.mp hx;obtain ⟨bt,hbt,hpb⟩:=Paired.get hps hbp;obtain ⟨hi,ei⟩:=zq11.mp hbt;obtain ⟨b1,b2⟩:=hb bt (bD hbt);simp_arith only [ki];obtain ⟨dx,ub,sb,gb,qs,hob,hU,hSo,hGp,hql,hq⟩:=(L.same s1).ob;refine bP hob rfl (zBH ds us dn bt pl rfl (L.same s1) (s1.seqT hD) (SqL.of (s1 _ _ hpb)) hpl b1 Jlk fun H2 s2=>?_);refine later ?_;simp_arith! [ki];have s3:=s1.trans s2;have hr2:Paired (fun p (b:List Nat)=>H2 p=some (.lst (nl b))) rs (GD.bM (aQ ds) (soN ds) (uN us) dn (bts.take i) pl):=Paired.mapP hrs fun _ _ z=>s2 _ _ z;have e4:GD.bM (aQ ds) (soN ds) (uN us) dn (bts.take (i+1)) pl=GD.bM (aQ ds) (soN ds) (uN us) dn (bts.take i) pl++GD.gu (aQ ds) (soN ds) (uN us) dn bt pl:=by unfold GD.bM;rw [dy hi,ei,List.flatMap_append,List.flatMap_singleton]
  rw [e4];have lr:=hrs.length;have lg:=GD.iG (G:=aQ ds) (so:=soN ds) (U:=uN us) (dn:=dn) (bts.take i) pl;rw [dw] at lg;refine ⟨fun σ H'=>Same H H'/\∃rs:List Addr,σ=[some (.ref p),some (.ref d),some (.ref c),some (.int pl),some (.ref mo),some (.ref bp),some (.bl (GD.bS (aQ ds) (soN ds) (uN us) dn bt pl))]/\H' mo=some (.lst (rs.map V.ref))/\Paired (fun p (b:List Nat)=>H' p=some (.lst (nl b))) rs (GD.bM (aQ ds) (soN ds) (uN us) dn (bts.take i) pl++(if GD.bS (aQ ds) (soN ds) (uN us) dn bt pl=true then [bt++[pl]] else [])),?_,?_⟩
  ·cases hf:GD.bS (aQ ds) (soN ds) (uN us) dn bt pl with
   |true=>
    rwa [if_true];refine ⟨.inl ⟨rfl,_,SqL.of (s2 _ _ hm1)⟩,fun p3 hp3=>zAE (nl bt) ([V.int pl]) (Same.upd hp3 _ _ (s2 _ _ (s1 _ _ hpb))) ac (by rw [eZ,zq8,bV];omega) fun p4 hp4=>?_⟩;have s5:=(Same.upd (o:=.lst [V.int pl]) hp3).trans (Same.upd (o:=.lst (nl bt++[V.int pl])) hp4);have m5:=s5 _ _ (s2 _ _ hm1);refine zAG (rs.map V.ref) m5 (by rw [zq3,zq8];omega) ((s3.trans s5).updM hmo) (zn (rs++[p4]) (by rw [ac,cg];rfl) ?_);exact zu m5 (Paired.mapP hr2 fun _ _ z=>s5 _ _ z) (by rw [ac,Cg]) (am (Same.upd hp3 _ _ (s2 _ _ hm1)) hp4).symm
   |false=>rwa [Bool.false_eq_true,if_false,List.append_nil];exact ⟨s3,zn rs (s2 _ _ hm1) hr2⟩
  ·rintro σ H3 ⟨s4,rs2,rfl,hm3,hr3⟩;refine later ?_;have lr3:=hr3.length;rw [zq7] at lr3;have l1:(if GD.bS (aQ ds) (soN ds) (uN us) dn bt pl=true then [bt++[pl]] else []).length<=1:=by split<;>simp
   have app:∀v6:V,(GD.bS (aQ ds) (soN ds) (uN us) dn bt pl=false\/soN ds pl<3)->tyV K "list" (V.ref mo) H3/\∃xs,H3 mo=some (.lst xs)/\xs.length<sizeLine/\Same H (upd H3 mo (.lst (xs++[V.ref bp])))/\∃(rs:List Addr)(o5 o6:Option V),
     [some (V.ref p),some (V.ref d),some (V.ref c),some (V.int ↑pl),some (V.ref mo),some (V.ref bp),some v6]=[some (V.ref p),some (V.ref d),some (V.ref c),some (V.int ↑pl),some (V.ref mo),o5,o6]/\upd H3 mo (.lst (xs++[V.ref bp])) mo=some (.lst (rs.map V.ref))/\
      Paired (fun p (b:List Nat)=>upd H3 mo (.lst (xs++[V.ref bp])) p=some (.lst (nl b))) rs (GD.bM (aQ ds) (soN ds) (uN us) dn (bts.take i) pl++GD.gu (aQ ds) (soN ds) (uN us) dn bt pl):=fun v6 hor=>by
    refine ⟨.inl ⟨rfl,_,SqL.of hm3⟩,zAG _ hm3 (by rw [zq3,zq8];omega) (s4.updM hmo) (zAN (rs2++[bp]) _ _ rfl (by rw [ac,cg];rfl) ?_)⟩;unfold GD.gu;rw [zq1 hor,<- xx];exact zu hm3 hr3 (s4 _ _ hpb) (am hpb hmo)
   rwa []
   cases hf:GD.bS (aQ ds) (soN ds) (uN us) dn bt pl with
   |false=>
    simp only [Bool.not_false,if_true];exact app _ (.inl hf)
   |true=>
    simp only [Bool.not_true,Bool.false_eq_true,if_false];obtain ⟨dx,ub,sb,gb,qs,hob,hU,hSo,hGp,hql,hq⟩:=(L.same s4).ob;refine df hob T.c_Layer.cl T.n_Layer_sorts rfl (ixL (SqL.of hSo) (A6 hpl) ?_)
    by_cases hs:soN ds pl<3
    ·rw [show sV (ds.getD pl (.tell (.word 0)))=.int (soN ds pl) from zq1 hs,show decide (V.int (soN ds pl)=V.non)=false from rfl];simp only [Bool.not_false,if_true];exact app _ (.inr hs)
    ·rw [show sV (ds.getD pl (.tell (.word 0)))=.non from zq0 hs];simp only [decide_true,Bool.not_true,Bool.false_eq_true,if_false];refine ⟨s4,zAN rs2 _ _ rfl hm3 ?_⟩;unfold GD.gu;rw [zq0 (show ¬(GD.bS (aQ ds) (soN ds) (uN us) dn bt pl=false\/soN ds pl<3) by rw [hf];simp [hs]),ix];exact hr3
 ·rintro σ H1 ⟨s1,rs,o5,o6,rfl,hm1,hrs⟩;rwa [];rw [zq3,lps,dZ] at hrs;exact q mo H1 s1 (zn rs hm1 hrs)
def tK(K:W.Frag)(C:Addr)(p d:Addr)(H:Hp)(Q:VK):Prop:=∃(ds:List FB.Deed)(us:List Int)(dn:List Nat),LayerH K C H p ds us/\SqT K H d (nl dn)/\∀c H',Same H H'->LLN H' c (GD.c5 (aQ ds) (soN ds) (uN us) ds.length dn)->Q (.ref c) H'
def v7(K:W.Frag)(C:Addr):Sp:=fun vs H Q _=>∃(p d:Addr),vs=[.ref p,.ref d]/\tK K C p d H Q
def oe(K:W.Frag)(C:Addr)(p a b:Addr)(H:Hp)(Q:VK):Prop:=∃(H0:Hp)(dx:Addr)(ds:List FB.Deed)(us:List Int),Same H0 H/\H0 p=none/\H p=some (.ins C dx [])/\mx K H0 a b ds us/\∀H',Same H0 H'->LayerH K C H' p ds us->Q .non H'
def qe(K:W.Frag)(C:Addr):Sp:=fun vs H Q _=>∃(p a b:Addr),vs=[.ref p,.ref a,.ref b]/\oe K C p a b H Q
theorem sy{C p d:Addr}{H:Hp}{Q:VK}{E:XK}:v7 K C [.ref p,.ref d] H Q E=tK K C p d H Q:=propext ⟨by rintro ⟨_,_,e,q⟩;cases e;exact q,fun q=>zAD p d rfl q⟩
theorem D3{C p a b:Addr}{H:Hp}{Q:VK}{E:XK}:qe K C [.ref p,.ref a,.ref b] H Q E=oe K C p a b H Q:=propext ⟨by rintro ⟨_,_,_,e,q⟩;cases e;exact q,fun q=>zAK p a b rfl q⟩
theorem fU{f:Str}{v:V}:∀{fs:List (Str×V)},(fs.map (·.1)).contains f=false->cU f v fs=fs++[(f,v)]
 | [],_=>rfl
 | (g,x)::r,h=>by
  rw [ce,List.contains_cons,Bool.or_eq_false_iff] at h;have n:¬g=f:=fun z=>by subst z;simp at h
  rw [show cU f v ((g,x)::r)=(if g=f then (g,v)::r else (g,x)::cU f v r) from rfl,zq0 n,fU h.2];rfl
theorem uh{ds:List FB.Deed}{us:List Int}{dn:List Nat}:∀(ms:List Nat)(bts:List (List Nat)) (m:Nat),(∀q∈ms,q<ds.length)->(∀b∈bts,(∀q∈b,q<ds.length)/\b.length<=m)->∀b∈ms.foldl (GD.bM (aQ ds) (soN ds) (uN us) dn) bts,(∀q∈b,q<ds.length)/\b.length<=m+ms.length
 | [],_,_,_,h=>h
 |p::ms,bts,m,h1,h2=>fun b hb=>by
  have z:=uh ms (GD.bM (aQ ds) (soN ds) (uN us) dn bts p) (m+1) (fun q hq=>h1 q (zq9 _ hq)) (fun c hc=>by
   obtain ⟨b',hb',hc⟩:=zq120.mp hc;obtain ⟨g1,g2⟩:=h2 b' hb';rcases GD.pB hc with ⟨_,rfl⟩ | rfl
   ·refine ⟨fun q hq=>?_,by rw [zq7,bV];omega⟩;rcases zq18.mp hq with hq | hq
    ·exact g1 q hq
    ·rw [zq10.mp hq];exact h1 p Jll
   ·exact ⟨g1,Jlk⟩) b hb
  exact ⟨z.1,by rw [cW];omega⟩
theorem pC{n:Nat}{dn:List Nat}:(GD.cu n dn).length<=n:=by have:=qJ (fun p=>! decide (p∈dn)) (List.range n);rwa [eg] at this
theorem Co(T:Txt K mg t):FnOk P w K mg base CX0 3 t.f_132 t.e_132 ["self","done"] (v7 K t.C_Layer):=by
 have G_134:=@Cu P w K mg base t T;have G_133:=@yN P w K mg base t T;refine T.d_132.F.ok sc_132 ∅ ?_;rintro cdv A outer s H vs Q E hr ⟨p,d,rfl,ds,us,dn,L,hD,q⟩;have h8:=L.h8;obtain ⟨dx,ub,sb,gb,qs,hob,hU,hSo,hGp,hql,hq⟩:=L.ob;refine ⟨_,
   (XSs.h
   (ai
    (aq (i:=3) sc_132.nd rfl lc (bI (tns:=["place"]) (cns:=["done"]) (ci:=[1]) rfl (CompSc.of Jkl) (cm gl T.z_range (aa (aL aM gl T.z_len PySem.boot_len (aa (b9 (yqv 0 vc) rfl) ae)) ae)) (fun _=>(aA (i:=1) (show List.Nodup [(".0":Str),("place":Str),("done":Str)] by decide +kernel) rfl ll (Or.inr Jkl))) (fun _=>(nJ (ar gY (yqv 1 vl) (yqv 2 vc) rfl))) (fun _=>(yqv 1 vl))))
   (ai
    (aq (i:=4) sc_132.nd rfl ll (aJ (aa (aJ ae) ae)))
   (ai
    (br PassesOwn.never rfl (aY (yqv 3 vc)) (aA (i:=2) sc_132.nd rfl ll)
     (ak
      (aq (i:=4) sc_132.nd rfl ll (aW T.c_Layer.cl T.d_133 G_133 hr.m (yqv 0 vc) (aa (yqv 1 vc) (aa (yqv 4 vl) (aa (yqv 2 vl) ae)))))))
   (ak
    (aw (bI (tns:=["beat"]) (cns:=["self","done","missing"]) (ci:=[0,1,3]) rfl (CompSc.of Jkl) (aY (yqv 4 vl)) (fun _=>(aA (i:=1) (show List.Nodup [(".0":Str),("beat":Str),("self":Str),("done":Str),("missing":Str)] by decide +kernel) rfl ll (Or.inr Jkl))) (fun _=>(nJ (iq (d9 (aW T.c_Layer.cl T.d_134 G_134 hr.m (yqv 2 vc) (aa (yqv 3 vc) (aa (yqv 1 vl) (aa (yqv 4 vc) ae)))))))) (fun _=>(yqv 1 vl))))))))),?_⟩
 rw [show aO _ [V.ref p,V.ref d]=[some (.ref p),some (.ref d),none,none,none] from rfl];rwa [sH,uQ];refine df hob T.c_Layer.cl T.n_Layer_sorts rfl ?_;refine zAR sb _ rfl (.inl (SqL.of hSo)) (by rw [zq3];omega) (by rw [zq3];omega) fun acc hacc bk=>?_;rw [zq3,kK];refine oB (fun q=>! decide (q∈dn)) (fun q=>V.int q) (by rw [zq8];omega) hacc (fun i hi H2 Q' s2 h=>?_) (fun i hi H2 Q' s2 _ h=>?_) fun H2 s2 hm=>?_
 ·rwa [];refine zAG _ (.inr (s2.seqT hD)) rfl fP ?_;rw [jR];exact h H2 (Same.refl _)
 ·rwa [];exact h H2 (Same.refl _)
 replace hm:H2 acc=some (.lst (nl (GD.cu ds.length dn))):=hm;have hml:=pC (n:=ds.length) (dn:=dn);have hmm:∀q∈GD.cu ds.length dn,q<ds.length:=fun q hq=>(GD.miss_iff.mp hq).1;have hfull:GD.c5 (aQ ds) (soN ds) (uN us) ds.length dn=((GD.cu ds.length dn).foldl (GD.bM (aQ ds) (soN ds) (uN us) dn) [[]]).filter fun b=>! GD.jd (aQ ds) (soN ds) (uN us) dn b (GD.cu ds.length dn):=rfl;rw [hfull] at q;generalize GD.cu ds.length dn=ms at hm hml hmm q;have hbs:∀i,i<=ms.length->∀b∈(ms.take i).foldl (GD.bM (aQ ds) (soN ds) (uN us) dn) [[]],(∀q∈b,q<ds.length)/\b.length<=i:=fun i hi b hb=>by have z:=uh (us:=us) (dn:=dn) (ms.take i) [[]] 0 (fun q hq=>hmm q (qU hq)) (fun b hb=>by rw [zq10.mp hb];exact ⟨fun q hq=>(by cases hq),zq5 _⟩) b hb;rw [dw] at z;exact ⟨z.1,Jlk⟩
 have hbl:∀i,i<=ms.length->((ms.take i).foldl (GD.bM (aQ ds) (soN ds) (uN us) dn) [[]]).length<=256:=fun i hi=>by have z:=GD.jO (G:=aQ ds) (so:=soN ds) (U:=uN us) (dn:=dn) (ms.take i) [[]];rw [dw,bV,Nat.mul_one] at z;exact dI z (dI (vH Jkm (show min i ms.length<=8 by omega)) Jkm)
 intro p2 hp2 p3 hp3;have s3:=(Same.upd (o:=.lst []) hp2).trans (Same.upd (o:=.lst [V.ref p2]) hp3);refine ⟨⟨_,SqL.of (s3 _ _ hm)⟩,?_⟩;refine dD (xs:=nl ms) (fun i σ H'=>Same H H'/\H' acc=some (.lst (nl ms))/\∃(o2:Option V)(c:Addr),σ=[some (.ref p),some (.ref d),o2,some (.ref acc),some (.ref c)]/\LLN H' c ((ms.take i).foldl (GD.bM (aQ ds) (soN ds) (uN us) dn) [[]])) (zAB (s2.trans s3) (s3 _ _ hm) (zAD _ p3 rfl (zn ([p2]) ac (.cons ?_ .nil)))) (fun i σ H' _ h=>SqL.of h.2.1) ?_ ?_
 ·rw [ao (am ac hp3)];exact ac
 ·rintro i x σ H3 hx ⟨s4,hm3,o2,c,rfl,hl⟩;unfold nl at hx;rw [bE] at hx;obtain ⟨pl,hpl,rfl⟩:=zq42.mp hx;obtain ⟨hi,ei⟩:=zq11.mp hpl;rwa [uQ];refine bP (s4 _ _ hob) rfl (zBH ds us dn _ pl rfl (L.same s4) (s4.seqT hD) hl (hmm pl (bD hpl)) (fun b hb=>⟨(hbs i Jlk b hb).1,by have:=(hbs i Jlk b hb).2;omega⟩) (by have:=hbl i Jlk;omega) fun c' H4 s5 hl4=>zAB (s4.trans s5) (s5 _ _ hm3) (zAD _ c' rfl ?_));rw [dy hi,ei,nQ];exact hl4
 ·rintro σ H3 ⟨s4,hm3,o2,c,rfl,ps,hc,hps⟩;rw [eZ] at hps;have hbs':=hbs ms.length (zq5 _);have hbl':=hbl ms.length (zq5 _);rw [dZ] at hps hbs' hbl';generalize ms.foldl (GD.bM (aQ ds) (soN ds) (uN us) dn) [[]]=bts at hps hbs' hbl' q;have lps:=hps.length;rwa [sH];refine ⟨⟨_,SqL.of hc⟩,fun acc2 hacc2 bk2=>?_⟩;refine d6 (xs:=ps.map V.ref) (fun i ys H'=>Same H3 H'/\∃rs:List Addr,ys=rs.map V.ref/\H' acc2=some (.lst ys)/\rs.length<=i/\Paired (fun r (b:List Nat)=>H3 r=some (.lst (nl b))) rs ((bts.take i).filter fun b=>! GD.jd (aQ ds) (soN ds) (uN us) dn b ms)) ⟨Same.upd hacc2,zAG ([]) rfl ac (zq5 _) .nil⟩ (fun i ys H' _ h=>SqL.of (h.1 _ _ hc)) ?_ ?_
  ·rintro i x ys H' os hx ho ⟨sm,rs,rfl,e1,lrs,hrs⟩;rw [bE] at hx;obtain ⟨bp,hbp,rfl⟩:=zq42.mp hx;obtain ⟨bt,hbt,hpb⟩:=Paired.get hps hbp;obtain ⟨hi,ei⟩:=zq11.mp hbt;obtain ⟨b1,b2⟩:=hbs' bt (bD hbt)
   match os,ho with
   | [o],_=>
    rwa [sH];have s5:=s4.trans sm;refine ⟨zn ([some (.ref bp)]) rfl rfl,bP (s5 _ _ hob) rfl (zAV ds us dn bt ms (zAY (L.same s5) (s5.seqT hD) (SqL.of (sm _ _ hpb)) (SqL.of (sm _ _ hm3)) b1 Jlk hmm Jlk fun H5 s6=>zn _ rfl ?_))⟩;have s7:=sm.trans s6;rw [dy hi,ei,vF]
    cases hroom:GD.jd (aQ ds) (soN ds) (uN us) dn bt ms with
    |false=>
     simp only [Bool.not_false,if_true];refine zAF (s6 _ _ e1) (by rw [zq3,zq8];omega) (s7.updM hacc2) (zAG (rs++[bp]) (by rw [cg];rfl) ac (by rw [zq7,bV];omega) ?_);rw [List.filter_cons_of_pos (by rw [hroom];rfl),vI];exact Paired.snoc hrs hpb
    |true=>simp only [Bool.not_true,Bool.false_eq_true,if_false];refine ⟨s7,zAG rs rfl (s6 _ _ e1) Jlk ?_⟩;rw [List.filter_cons_of_neg (by rw [hroom];simp),vI,ix];exact hrs
  ·rintro ys H' ⟨sm,rs,rfl,e1,lrs,hrs⟩;rw [zq3,lps,dZ] at hrs;exact q acc2 H' (s4.trans sm) (zn rs e1 (Paired.mapP hrs fun _ _ z=>sm _ _ z))
theorem yQ(T:Txt K mg t)(hw:t.pr=w.params):FnOk P w K mg base CX0 11 t.f_131 t.e_131 ["self","deeds","units"] (qe K t.C_Layer):=by
 have G_126:=wL (P:=P) (base:=base) T hw;have G_129:=@Fy P w K mg base t T;refine T.d_131.F.ok HH ∅ ?_;rintro cdv A outer s H vs Q E hr ⟨p,a,b,rfl,H0,dx,ds,us,s0,hp0,hp,hI,q⟩;obtain ⟨xs,hS,hds,h8,hU,h3,hpos⟩:=hI;have lx:=hds.length;refine ⟨_,
   (XSs.h
   (ai
    (cn (yqv 0 vl) (yqv 2 vl) rfl)
   (ai
    (cn (yqv 0 vl) (bI (tns:=["deed"]) (cns:=[]) (ci:=[]) rfl (CompSc.of Jkl) (aY (yqv 1 vc)) (fun _=>(aA (i:=1) (show List.Nodup [(".0":Str),("deed":Str)] by decide +kernel) rfl ll (Or.inr Jkl))) (fun _=>bY) (fun _=>(au T.d_126 G_126 hr.m (aa (yqv 1 vl) ae) gl))) rfl)
   (ak
    (cn (yqv 0 vl) (xm (z0:="k") (tns:=["k"]) (cns:=["deeds"]) (ci:=[1]) rfl (CompScZ.of Jkl (fun _ _=>rfl) (fun _=>rfl)) (cm gl T.z_range (aa (aL aM gl T.z_len PySem.boot_len (aa (yqv 1 vc) ae)) ae)) (fun _=>(aA (i:=1) (show List.Nodup [(".0":Str),("k":Str),("deeds":Str)] by decide +kernel) rfl lc (Or.inl rfl))) (fun _=>bY) (fun _=>(bI (tns:=["j"]) (cns:=["k","deeds"]) (ci:=[1,2]) rfl (CompSc.of Jkl) (cm gl T.z_range (aa (yqv 1 vc) ae)) (fun _=>(aA (i:=1) (show List.Nodup [(".0":Str),("j":Str),("k":Str),("deeds":Str)] by decide +kernel) rfl ll (Or.inr Jkl))) (fun _=>bY) (fun _=>(au T.d_129 G_129 hr.m (aa (yqv 3 vc) (aa (yqv 1 vl) (aa (yqv 2 vc) ae))) gl))))) rfl))))),?_⟩
 rw [show aO _ [V.ref p,V.ref a,V.ref b]=[some (.ref p),some (.ref a),some (.ref b)] from rfl];simp_arith! [kn,kj];refine gD hp T.c_Layer.cl T.n_Layer_units Jll ?_;rw [fU Jlm,xA];have s1:=s0.updM (o:=.ins t.C_Layer dx [("units",V.ref b)]) hp0;have e1:upd H p (.ins t.C_Layer dx [("units",V.ref b)]) p=some (.ins t.C_Layer dx [("units",V.ref b)]):=ac;generalize upd H p (.ins t.C_Layer dx [("units",V.ref b)])=H1 at s1 e1 ⊢;refine later ?_;simp_arith! [kn,kj];refine ⟨⟨_,s1.seq hS⟩,fun acc hacc bk=>?_⟩;refine d6 (xs:=xs) (fun i ys H'=>Same H1 H'/\H' acc=some (.lst ys)/\ys=(ds.take i).map sV) (zAB (Same.upd hacc) ac Jll) (fun i ys H' _ h=>(s1.trans h.1).seq hS) ?_ ?_
 ·rintro i x ys H' os hx ho ⟨sm,e2,rfl⟩;obtain ⟨d,hd,fd,qx,rfl,hqx⟩:=Paired.get (hds.ts (s1.trans sm).ts) hx;obtain ⟨hi,ei⟩:=zq11.mp hd
  match os,ho with
  | [o],_=>rwa [kn];refine ⟨zn ([some (.ref qx)]) rfl rfl,⟨d,zAW hqx fd e2 (by rw [zq3,dw,zq8];omega) (sm.updM hacc) ac ?_⟩⟩;rw [dy hi,ei,cg];rfl
 ·rintro ys H2 ⟨s2,e2,rfl⟩;rw [lx,dZ] at e2;have fa:=s1.free hacc;refine gD (s2 _ _ e1) T.c_Layer.cl T.n_Layer_sorts Jll ?_;rw [fU Jkl];have npa:acc≠p:=(am e1 hacc).symm;have s3:=(s1.trans s2).updM (o:=.ins t.C_Layer dx ([(("units":Str),V.ref b)]++[(("sorts":Str),V.ref acc)])) hp0;have e3:upd H2 p (.ins t.C_Layer dx ([(("units":Str),V.ref b)]++[(("sorts":Str),V.ref acc)])) p=some (.ins t.C_Layer dx ([(("units":Str),V.ref b)]++[(("sorts":Str),V.ref acc)])):=ac;have g3:upd H2 p (.ins t.C_Layer dx ([(("units":Str),V.ref b)]++[(("sorts":Str),V.ref acc)])) acc=some (.lst (ds.map sV)):=by rw [ao npa];exact e2
  generalize upd H2 p (.ins t.C_Layer dx ([(("units":Str),V.ref b)]++[(("sorts":Str),V.ref acc)]))=H3 at s3 e3 g3 ⊢;refine later ?_;simp_arith! [kj];refine zAG xs (.inl (s3.seq hS)) Jlk Jlk fun ac2 hac2 bk2=>?_;rw [kK,lx];refine oz (fun k ys H'=>Same H3 H'/\∃qs:List Addr,ys=qs.map V.ref/\H' ac2=some (.lst ys)/\qs.length=k/\∀(j:Nat)q,qs[j]?=some q->q≠ac2/\H' q=some (.lst ((List.range j).map fun i=>FB.nh (aQ ds i j)))) ⟨Same.upd hac2,zAG ([]) rfl ac rfl (fun j q h=>by simp at h)⟩ ?_ ?_
  ·rintro k ys H' os hk ho ⟨sm,qs,rfl,e4,lq,hqs⟩;rw [show (0:Int)+(k:Int)=(k:Int) by omega]
   match os,ho with
   | [o],_=>
    rwa [kj];refine zAF (zn ([some (.int k)]) rfl rfl) Jlk Jlk fun ac3 hac3 bk3=>?_;rw [kK];refine oB (fun _=>true) (fun j=>FB.nh (aQ ds j k)) (by rw [zq8];omega) hac3 (fun j hj H4 Q' s4 h=>h H4 (Same.refl _)) (fun j hj H4 Q' s4 _ h=>?_) fun H4 s4 e5=>?_
    ·rwa [kj];have s5:=(s3.trans sm).trans s4;exact zBA xs ds j k rfl rfl (s5.seq hS) (hds.ts s5.ts) hj Jlk h
    ·rw [List.filter_eq_self.mpr (fun _ _=>rfl)] at e5;refine zAF (s4 _ _ e4) (by rw [zq3,zq8];omega) ((sm.trans s4).updM hac2) (zAG (qs++[ac3]) (by rw [cg];rfl) ac (by rw [zq7,bV];omega) fun j q hj=>?_);have n3:ac3≠ac2:=(am e4 hac3).symm
     by_cases hlt:j<qs.length
     ·rw [jp hlt] at hj;obtain ⟨z1,z2⟩:=hqs j q hj;exact ⟨z1,by rw [ao z1];exact s4 _ _ z2⟩
     ·have hjl:=(zq11.mp hj).1;rw [zq7,bV] at hjl;obtain rfl:j=qs.length:=by omega
      rw [iy (zq5 _),rg] at hj
      cases hj
      refine ⟨n3,?_⟩;rw [ao n3,lq];exact e5
  ·rintro ys H4 ⟨s4,qs,rfl,e4,lq,hqs⟩;refine gD (s4 _ _ e3) T.c_Layer.cl T.n_Layer_gaps Jll ?_;rw [fU Jkl];have nac:ac2≠p:=(am e3 hac2).symm;have s5:=(s3.trans s4).updM (o:=.ins t.C_Layer dx ([(("units":Str),V.ref b)]++[(("sorts":Str),V.ref acc)]++[(("gaps":Str),V.ref ac2)])) hp0;refine q _ s5 ⟨zAZ dx b acc ac2 qs ac (s5.seqT hU) ?_ ?_ lq fun k qq hk=>?_,h8,h3,hpos⟩
   ·rw [ao npa];exact s4 _ _ g3
   ·rw [ao nac];exact e4
   ·obtain ⟨z1,z2⟩:=hqs k qq hk;rw [ao (bL z2 (s4 _ _ e3) (by intro z;cases z))];exact z2
variable {H H':Hp}
def LSt(H H':Hp):Prop:=∀b xs,H b=some (.lst xs)->H' b=some (.lst xs)
theorem LSt.of(s:Same H H'):LSt H H':=fun b xs e=>s _ _ e
theorem LSt.trans{H1 H2:Hp}(a:LSt H H1)(b:LSt H1 H2):LSt H H2:=fun c xs e=>b _ _ (a _ _ e)
theorem LSt.upd{l:Addr}{o u:HO}(e:H l=some u)(hn:∀xs,u≠.lst xs):LSt H (upd H l o):=fun b xs eb=>by rw [ao (bL eb e (fun z=>hn xs z.symm))];exact eb
theorem LLN.lst{c:Addr}{bts:List (List Nat)}(s:LSt H H')(h:LLN H c bts):LLN H' c bts:=
 let ⟨ps,e,r⟩:=h;(zn ps (s _ _ e) (Paired.mapP r fun _ _ z=>s _ _ z))
def km(ps:List Nat):List Key:=ps.map fun p:Nat=>(Sum.inl (p:Int):Key)
theorem uq{ps:List Nat}:(km ps).map kV=nl ps:=by unfold km nl;rw [fJ];rfl
theorem yw:∀{a b:List Nat},km a=km b->a=b
 | [],[],_=>rfl
 | [],_::_,h=>by cases h
 |_::_,[],h=>by cases h
 |x::a,y::b,h=>by unfold km at h;rw [ce,ce,List.cons.injEq] at h;have e:(x:Int)=(y:Int):=Sum.inl.inj h.1;rw [yw (a:=a) (b:=b) h.2,show x=y by omega]
def WsV(H:Hp)(kvs:List (List Key×V))(ws:List (List Nat×List (List Nat))):Prop:=Paired (fun (kv:List Key×V) (w:List Nat×List (List Nat))=>kv.1=km w.1/\∃c,kv.2=.ref c/\LLN H c w.2) kvs ws
theorem WsV.lst{kvs:List (List Key×V)}{ws:List (List Nat×List (List Nat))}(s:LSt H H')(h:WsV H kvs ws):WsV H' kvs ws:=Paired.mapP h fun _ _ ⟨z1,c,z2,z3⟩=>⟨z1,zn c z2 (z3.lst s)⟩
theorem WsV.val{kvs:List (List Key×V)}{ws:List (List Nat×List (List Nat))}(h:WsV H kvs ws)(k:List Nat):(k∉ws.map (·.1)/\bh kvs (km k)=none)\/∃w∈ws,w.1=k/\∃c,bh kvs (km k)=some (.ref c)/\LLN H c w.2:=by
 unfold WsV at h
 induction h with
 |nil=>exact .inl ⟨Jll,rfl⟩
 | @cons kv w kvs ws hd tl ih=>
  obtain ⟨e1,c,e2,hl⟩:=hd
  by_cases e:w.1=k
  ·refine .inr (zAC w Jll e (zn c ?_ hl));rw [bB (by rw [e1,e]),e2]
  ·have ne:¬kv.1=km k:=fun z=>e (yw (e1.symm.trans z));rcases ih with ⟨h1,h2⟩ | ⟨w',hw',h1,c',h2,h3⟩
   ·refine .inl ⟨?_,by rw [bv ne];exact h2⟩;rw [ce,zq12];exact fun z=>z.elim (fun z=>e z.symm) h1
   ·exact .inr (zAC w' (zq9 _ hw') h1 (zn c' (by rw [bv ne];exact h2) h3))
theorem WsV.put{kvs:List (List Key×V)}{ws:List (List Nat×List (List Nat))}(h:WsV H kvs ws){k:List Nat}{c:Addr}{bss:List (List Nat)}(hc:LLN H c bss):WsV H (kvs++[(km k,.ref c)]) (ws++[(k,bss)]):=Paired.snoc h ⟨rfl,zn c rfl hc⟩
structure RoundH(H1 H:Hp)(wa lo:Addr)(o:Obj)(kvs:List (List Key×V))(ws acc:List (List Nat×List (List Nat))):Prop where
 same:Same H1 H
 fr:H1 lo=none
 old:H wa=some (.frz o (.dT kvs))
 wsv:WsV H kvs ws
 now:∃kv2,H lo=some (.dT kv2)/\WsV H kv2 acc
theorem RoundH.mv{H1:Hp}{wa lo:Addr}{o:Obj}{kvs:List (List Key×V)}{ws acc:List (List Nat×List (List Nat))}(h:RoundH H1 H wa lo o kvs ws acc)(s:Same H H'):RoundH H1 H' wa lo o kvs ws acc:=
 ⟨h.same.trans s,h.fr,s _ _ h.old,h.wsv.lst (LSt.of s),let ⟨kv2,e,r⟩:=h.now;(zn kv2 (s _ _ e) (r.lst (LSt.of s)))⟩
theorem RoundH.put{H1 H:Hp}{wa lo:Addr}{o:Obj}{kvs kv2:List (List Key×V)}{ws acc:List (List Nat×List (List Nat))}{k:List Nat}{c:Addr}{bss:List (List Nat)}(h:RoundH H1 H wa lo o kvs ws acc)(e:H lo=some (.dT kv2))(r:WsV H kv2 acc)(hk:k∉acc.map (·.1))(hc:LLN H c bss):
  RoundH H1 (upd H lo (.dT (kv2++[(km k,.ref c)]))) wa lo o kvs ws (GD.ic acc k bss):=by
 have ls:LSt H (upd H lo (.dT (kv2++[(km k,.ref c)]))):=LSt.upd e (by intro xs z;cases z);refine ⟨h.same.updM h.fr,h.fr,?_,h.wsv.lst ls,kv2++[(km k,.ref c)],ac,?_⟩
 ·rw [ao (bL h.old e (by intro z;cases z))];exact h.old
 ·unfold GD.ic;rw [zq0 hk];exact (r.put hc).lst ls
def qa(K:W.Frag):Sp:=fun vs H Q _=>∃(a b:Addr)(ds:List FB.Deed)(us:List Int),vs=[.ref a,.ref b]/\mx K H a b ds us/\∀c r bss H',Same H H'->LLN H' c bss->(List.range ds.length,bss)∈GD.cj (aQ ds) (soN ds) (uN us) ds.length r->(∀k,k<r->List.range ds.length∉(GD.cj (aQ ds) (soN ds) (uN us) ds.length k).map (·.1))->Q (.ref c) H'
theorem zJ{ty td:TE}{σ:L2.St}{H:Hp}{Q:VK}:nC ty td σ H Q=ty σ H fun y H1=>td σ H1 fun x H2=>∃a o,x=.ref a/\DGet H2 a y o/\Q (.bl (! o.isSome)) H2:=rfl
theorem yO(T:Txt K mg t)(hw:t.pr=w.params):FnOk P w K mg base CX0 14 t.f_130 t.e_130 ["deeds","units"] (qa K):=by
 have G_131:=yQ (P:=P) (base:=base) T hw;have G_132:=@Co P w K mg base t T;refine T.d_130.F.ok sc_130 ∅ ?_;rintro cdv A outer s H vs Q E hr ⟨a,b,ds,us,rfl,hI,q⟩;have hu:=fi hr;refine ⟨_,
   (XSs.h
   (ai
    (aq (i:=2) sc_130.nd rfl ll (iV T.c_Layer T.d_131 G_131 hr.m (aa (yqv 0 vl) (aa (yqv 1 vl) ae)) gl))
   (ai
    (aq (i:=3) sc_130.nd rfl ll (tj rfl T.z_tuple T.z_range (aa (aL aM gl T.z_len PySem.boot_len (aa (yqv 0 vl) ae)) ae) gl gl))
   (ai
    (aq (i:=4) sc_130.nd rfl ll (sZ hu (aG ae) (aJ ae)))
   (ai
    (eN PassesOwn.never (vz (kH hu (yqv 3 vl) (yqv 4 vl)))
     (ai
      (aq (i:=5) sc_130.nd rfl ll xp)
     (ai
      (br PassesOwn.never rfl (tm (yqv 4 vl)) (eo rfl (aV (aA (i:=6) sc_130.nd rfl ll) (aV (aA (i:=7) sc_130.nd rfl ll) dk)))
       (ak
        (br PassesOwn.never rfl (aY (aW T.c_Layer.cl T.d_132 G_132 hr.m (yqv 2 vl) (aa (yqv 6 vl) ae))) (aA (i:=8) sc_130.nd rfl ll)
         (ak
          (aR (c7 PySem.F.plainAttrs_dict PySem.F.slot_dict_setdefault PySem.F.type_dict_setdefault (kQ hu) (yqv 5 vl) (aa (bA eD gl T.z_tuple boot_tuple (aa (aL ow gl T.z_sorted boot_sorted (aa (av f6 (bA cQ gl T.z_list boot_list (aa (yqv 6 vl) ae)) (yqv 8 vl)) ae)) ae)) (aa (av f6 (yqv 7 vl) (aJ (aa (yqv 8 vl) ae))) ae))))))))
     (ak
      (aq (i:=4) sc_130.nd rfl ll (yqv 5 vl))))))
   (ak
    (aw (cT hu (yqv 4 vl) (yqv 3 vl) (fun _ _=>rfl))))))))),?_⟩
 rw [show aO _ [V.ref a,V.ref b]=[some (.ref a),some (.ref b),none,none,none,none,none,none,none] from rfl];simp_arith! [D3,sy];intro ly dx hly hdx hne;refine zAK ly a b rfl (zAM H dx ds us ((Same.upd hdx).trans (Same.upd (by rw [ao hne.symm];exact hly))) hly ac hI fun H1 s1 L1=>⟨rfl,?_⟩);obtain ⟨xs,hS,hds,h8,hU,h3,hpos⟩:=hI;have lx:=hds.length;refine later ?_;simp_arith! [];refine zn xs (.inl (s1.seq hS)) (zAC ds.length (by rw [lx]) Jlk fun ev hev=>?_);have s2:=s1.updN (o:=.tup ((List.range ds.length).map fun i:Nat=>V.int i)) hev;have L2:=L1.same (Same.upd (o:=.tup ((List.range ds.length).map fun i:Nat=>V.int i)) hev);have e2:upd H1 ev (.tup ((List.range ds.length).map fun i:Nat=>V.int i)) ev=some (.tup (nl (List.range ds.length))):=ac;generalize upd H1 ev (.tup ((List.range ds.length).map fun i:Nat=>V.int i))=H2 at s2 L2 e2 ⊢;refine later ?_;simp_arith! [];intro wa hwa tp htp li hli;have eW:=((Same.upd (o:=.tup []) htp).trans (Same.upd (o:=.lst []) hli)) wa _ ac;refine ⟨eW,zAA tp ([]) rfl (Same.upd hli _ _ ac) ?_⟩;have s3:Same H2 (upd (upd (upd (upd H2 wa (.dT [])) tp (.tup [])) li (.lst [])) wa (.dT [([],.ref li)])):=((Same.upd hwa).trans ((Same.upd htp).trans (Same.upd hli))).updM hwa;have e3:upd (upd (upd (upd H2 wa (.dT [])) tp (.tup [])) li (.lst [])) wa (.dT [([],.ref li)]) wa=some (.dT [([],.ref li)]):=ac;have w3:WsV (upd (upd (upd (upd H2 wa (.dT [])) tp (.tup [])) li (.lst [])) wa (.dT [([],.ref li)])) [([],.ref li)] (GD.cj (aQ ds) (soN ds) (uN us) ds.length 0):=
  .cons ⟨rfl,zn li rfl (zn ([]) (by rw [ao (am (Same.upd htp _ _ ac) hli).symm];exact ac) .nil)⟩ .nil
 generalize upd (upd (upd (upd H2 wa (.dT [])) tp (.tup [])) li (.lst [])) wa (.dT [([],.ref li)])=H3 at s3 e3 w3 ⊢;refine later ?_;simp_arith! [];have hpos2:=L2.pos;obtain ⟨n,hn⟩:∃n,n=ds.length:=⟨_,rfl⟩
 rw [<- hn] at e2 w3 q h8;obtain ⟨dx2,ub,sb,gb,qs,hob,_⟩:=L2.ob;refine ⟨fun m σ H'=>∃(r:Nat)(wa:Addr)(kvs:List (List Key×V)) (o5 o6 o7 o8:Option V),m=n-r/\σ=[some (.ref a),some (.ref b),some (.ref ly),some (.ref ev),some (.ref wa),o5,o6,o7,o8]/\Same H2 H'/\H2 wa=none/\H' wa=some (.dT kvs)/\WsV H' kvs (GD.cj (aQ ds) (soN ds) (uN us) n r)/\∀k,k<r->List.range n∉(GD.cj (aQ ds) (soN ds) (uN us) n k).map (·.1),
  (zAX _ 0 wa _ none none none none (zAW rfl rfl s3 hwa e3 w3 (fun k hk=>absurd hk Jlk))),?_⟩
 rintro m σ H4 ⟨r,wb,kvs,o5,o6,o7,o8,rfl,rfl,s4,hwb,e4,w4,hno⟩;simp_arith! [zJ];refine zAA wb _ rfl (DGet.t (k:=km (List.range n)) e4 (by rw [uq];exact s4 _ _ e2)) ?_;rcases w4.val (List.range n) with ⟨hk,hv⟩ | ⟨w',hw',hk',c,hv,hl⟩
 ·rw [hv,zq1 (show (!(none:Option V).isSome)=true from rfl)];have hlt:r<n:=GD.Di hpos2 fun k hk2=>by
   by_cases e:k=r
   ·rw [e];exact hk
   ·exact hno k Jlk
  refine ⟨fun σ H'=>∃(wa:Addr)(kvs:List (List Key×V)) (o5 o6 o7 o8:Option V),σ=[some (.ref a),some (.ref b),some (.ref ly),some (.ref ev),some (.ref wa),o5,o6,o7,o8]/\Same H2 H'/\H2 wa=none/\H' wa=some (.dT kvs)/\WsV H' kvs (GD.cj (aQ ds) (soN ds) (uN us) n (r+1)),?_,?_⟩
  ·rintro σ' H' ⟨wc,kv2,p5,p6,p7,p8,rfl,z1,z2,z3,z4⟩;refine zn (n-(r+1)) Jlk (zBF (r+1) wc kv2 p5 p6 p7 p8 rfl rfl z1 z2 z3 z4 fun k hk2=>?_)
   by_cases e:k=r
   ·rw [e];exact hk
   ·exact hno k Jlk
  intro lo hlo;refine later ?_;simp_arith! [];have sl:=Same.upd (o:=.dT []) hlo;refine zAA wb kvs rfl (sl _ _ e4) fun o=>?_;have nlw:lo≠wb:=(am e4 hlo).symm;have R0:RoundH H2 (upd (upd H4 lo (.dT [])) wb (.frz o (.dT kvs))) wb lo o kvs (GD.cj (aQ ds) (soN ds) (uN us) n r) []:=
   ⟨(s4.trans sl).updM hwb,s4.free hlo,ac,w4.lst ((LSt.of sl).trans (LSt.upd (sl _ _ e4) (by intro xs z;cases z))),[],by rw [ao nlw];exact ac,.nil⟩
  generalize upd (upd H4 lo (.dT [])) wb (.frz o (.dT kvs))=H6 at R0 ⊢;have lw:=w4.length;have wok:=GD.ik (G:=aQ ds) (so:=soN ds) (U:=uN us) (n:=n) r;have hstep:GD.cj (aQ ds) (soN ds) (uN us) n (r+1)=(GD.cj (aQ ds) (soN ds) (uN us) n r).foldl (fun acc w=>GD.ee n acc w (GD.c5 (aQ ds) (soN ds) (uN us) n w.1)) []:=rfl;rw [hstep];generalize GD.cj (aQ ds) (soN ds) (uN us) n r=ws at lw wok R0 ⊢;refine ym (fun i σ H'=>RoundH H2 H' wb lo o kvs ws ((ws.take i).foldl (fun acc w=>GD.ee n acc w (GD.c5 (aQ ds) (soN ds) (uN us) n w.1)) [])/\∃o6 o7 o8,σ=[some (.ref a),some (.ref b),some (.ref ly),some (.ref ev),some (.ref wb),some (.ref lo),o6,o7,o8]) ⟨R0,zAJ _ _ _ rfl⟩ (fun i σ H' _ h=>h.1.old) ?_ ?_
  ·rintro i k v bb σ H7 p hki hb hp ⟨R,o6,o7,o8,rfl⟩;obtain ⟨w,hwi,ek,c,ev2,hlc⟩:=Paired.get R.wsv hki;subst ev2;subst ek;obtain ⟨hi,ei⟩:=zq11.mp hwi;simp_arith! [sy];refine zAC _ (SqT.of ac) rfl ?_;have sp:=Same.upd (o:=.tup [.ref bb,.ref c]) hp;have R8:=R.mv sp;have hb8:=sp _ _ hb;have hlc8:=hlc.same sp;generalize upd H7 p (.tup [.ref bb,.ref c])=H8 at R8 hb8 hlc8 ⊢;rw [uq] at hb8;simp_arith! [sy];refine bP (R8.same _ _ hob) rfl (zAN ds us w.1 (L2.same R8.same) (SqT.of hb8) fun c2 H9 s9 hl9=>?_);rw [<- hn] at hl9;obtain ⟨ps,hc2,hps⟩:=hl9;have lps:=hps.length;have R9:=R8.mv s9;have hl:=wok.lay w (bD hwi);obtain ⟨acc,hacc⟩:∃acc,acc=(ws.take i).foldl (fun acc w=>GD.ee n acc w (GD.c5 (aQ ds) (soN ds) (uN us) n w.1)) []:=⟨_,rfl⟩
   have eacc:(ws.take (i+1)).foldl (fun acc w=>GD.ee n acc w (GD.c5 (aQ ds) (soN ds) (uN us) n w.1)) []=GD.ee n acc w (GD.c5 (aQ ds) (soN ds) (uN us) n w.1):=by rw [dy hi,ei,nQ,hacc];rfl
   have aok:GD.WOk (aQ ds) (soN ds) (uN us) n (r+1) acc:=by rw [hacc];exact GD.WOk.step _ _ (fun x hx=>wok.lay x (qU hx)) ⟨fun x hx=>(by cases hx),Jll⟩
   rw [eacc];rw [<- hacc] at R9;have hfine:∀b∈GD.c5 (aQ ds) (soN ds) (uN us) n w.1,GD.Fine (aQ ds) (soN ds) (uN us) w.1 (GD.cu n w.1) b/\b∈GD.c5 (aQ ds) (soN ds) (uN us) n w.1:=fun b hb=>⟨GD.iE hpos2 hb,hb⟩
   generalize hbs:GD.c5 (aQ ds) (soN ds) (uN us) n w.1=bs at hps hfine lps ⊢;refine zAC c2 rfl ⟨_,SqL.of hc2⟩ ?_;refine dD (xs:=ps.map V.ref) (fun j σ H'=>RoundH H2 H' wb lo o kvs ws (GD.ee n acc w (bs.take j))/\LSt H9 H'/\H' bb=some (.tup (nl w.1))/\∃o8,σ=[some (.ref a),some (.ref b),some (.ref ly),some (.ref ev),some (.ref wb),some (.ref lo),some (.ref bb),some (.ref c),o8]) (zAF (by simpa [GD.ee] using R9) (fun _ _ e=>e) (s9 _ _ hb8) ⟨_,rfl⟩) (fun j σ H' _ h=>SqL.of (h.2.1 _ _ hc2)) ?_ ?_
   ·rintro j x σ H10 hx ⟨R10,ls,hb10,o9,rfl⟩;rw [bE] at hx;obtain ⟨bp,hbp,rfl⟩:=zq42.mp hx;obtain ⟨bt,hbt,hpb⟩:=Paired.get hps hbp;obtain ⟨hj,ej⟩:=zq11.mp hbt;obtain ⟨hf,hff⟩:=hfine bt (bD hbt);rwa [];obtain ⟨kv2,elo,wlo⟩:=R10.now;have hcan:=hl.1.can;have hwl:w.1.length<=8:=by have:=hcan.len;omega
    have hbl:bt.length<=8:=by have:=hf.sub.length_le;have:=pC (n:=n) (dn:=w.1);omega
    have aok':GD.WOk (aQ ds) (soN ds) (uN us) n (r+1) (GD.ee n acc w (bs.take j)):=GD.WOk.add hl.1 hl.2 _ _ (fun b hb=>by rw [hbs];exact (hfine b (qU hb)).2) aok;have hkl:kv2.length<=256:=by rw [wlo.length];exact dI aok'.len (dI (vH Jkm h8) Jkm)
    obtain ⟨cs,hcc,hcs⟩:=(hlc8.same s9).lst ls;have lcs:=hcs.length;have lr:=hl.2;refine ⟨.inr (.inr (.inl ⟨rfl,.inr ⟨kv2,elo⟩⟩)),zn (nl w.1) (.inr (SqT.of hb10)) (fun l1 hl1=>zAE (nl w.1) (nl bt) ac (Same.upd hl1 _ _ (ls _ _ hpb)) (by rw [eZ,eZ,zq8];omega) fun l2 hl2=>?_)⟩;have Sb:=(Same.upd (o:=.lst (nl w.1)) hl1).trans (Same.upd (o:=.lst (nl w.1++nl bt)) hl2);have eb:upd (upd H10 l1 (.lst (nl w.1))) l2 (.lst (nl w.1++nl bt)) l2=some (.lst (((w.1++bt).map fun p:Nat=>(p:Int)).map V.int)):=by rw [ac,fJ,cg];rfl
    generalize upd (upd H10 l1 (.lst (nl w.1))) l2 (.lst (nl w.1++nl bt))=Hb at Sb eb ⊢;refine zAC _ (SqL.of eb) (by rw [zq3,zq7];omega) fun l3 ns' hl3 hperm hsort=>?_;have ens:ns'=(GD.cS n w.1 bt).map fun p:Nat=>(p:Int):=List.Perm.eq_of_pairwise (fun x y _ _ h1 h2=>Int.le_antisymm h1 h2) hsort (List.pairwise_map.mpr ((GD.mF (n:=n) (dn:=w.1) (b:=bt)).sorted.imp fun h=>Jlk)) (hperm.trans ((GD.jV hcan hf.sub).map _));subst ens;have Sc:=Sb.trans (Same.upd (o:=.lst (((GD.cS n w.1 bt).map fun p:Nat=>(p:Int)).map V.int)) hl3);have ec:upd Hb l3 (.lst (((GD.cS n w.1 bt).map fun p:Nat=>(p:Int)).map V.int)) l3=some (.lst (nl (GD.cS n w.1 bt))):=by rw [ac,fJ];rfl
    generalize upd Hb l3 (.lst (((GD.cS n w.1 bt).map fun p:Nat=>(p:Int)).map V.int))=Hc at Sc ec ⊢;refine ⟨_,.inl ⟨SqL.of ec,fun l4 hl4 l5 hl5=>zAE (cs.map V.ref) ([.ref bp]) (((Sc.trans (Same.upd hl4)).trans (Same.upd hl5)) _ _ hcc) ac (by rw [zq3,bV,zq8];omega) fun l6 hl6=>?_⟩⟩;have Se:=(Same.upd (o:=.lst [V.ref bp]) hl5).trans (Same.upd (o:=.lst (cs.map V.ref++[.ref bp])) hl6);have Sf:=(Sc.trans (Same.upd (o:=.tup (nl (GD.cS n w.1 bt))) hl4)).trans Se;have e4':upd (upd (upd Hc l4 (.tup (nl (GD.cS n w.1 bt)))) l5 (.lst [V.ref bp])) l6 (.lst (cs.map V.ref++[.ref bp])) l4=some (.tup (nl (GD.cS n w.1 bt))):=Se _ _ ac;have e6:LLN (upd (upd (upd Hc l4 (.tup (nl (GD.cS n w.1 bt)))) l5 (.lst [V.ref bp])) l6 (.lst (cs.map V.ref++[.ref bp]))) l6 (w.2++[bt]):=zn (cs++[bp]) (by rw [ac,cg];rfl) (Paired.snoc (Paired.mapP hcs fun _ _ z=>Sf _ _ z) (Sf _ _ (ls _ _ hpb)))
    generalize upd (upd (upd Hc l4 (.tup (nl (GD.cS n w.1 bt)))) l5 (.lst [V.ref bp])) l6 (.lst (cs.map V.ref++[.ref bp]))=Hf at Sf e4' e6 ⊢;have eadd:GD.ee n acc w (bs.take (j+1))=GD.ic (GD.ee n acc w (bs.take j)) (GD.cS n w.1 bt) (w.2++[bt]):=by rw [dy hj,ej];unfold GD.ee;rw [nQ];rfl
    rw [eadd];have R11:=R10.mv Sf;have wlo':=wlo.lst (LSt.of Sf);refine zAR kv2 (km (GD.cS n w.1 bt)) (Sf _ _ elo) (by rw [uq];exact e4') (by rw [zq8];omega) (fun y hy=>?_) fun hy=>?_
    ·rcases wlo'.val (GD.cS n w.1 bt) with ⟨_,hv2⟩ | ⟨w2,hw2,hk2,_⟩
     ·rw [hy] at hv2;cases hv2
     ·unfold GD.ic;rw [zq1 (zq36.mpr ⟨w2,hw2,hk2⟩)];exact zAF R11 (ls.trans (LSt.of Sf)) (Sf _ _ hb10) ⟨_,rfl⟩
    ·rcases wlo'.val (GD.cS n w.1 bt) with ⟨hk2,_⟩ | ⟨_,_,_,_,hv2,_⟩
     ·refine zAF (R11.put (Sf _ _ elo) wlo' hk2 e6) ((ls.trans (LSt.of Sf)).trans (LSt.upd (Sf _ _ elo) (by intro xs z;cases z))) ?_ ⟨_,rfl⟩;rw [ao (bL (Sf _ _ hb10) (Sf _ _ elo) (by intro z;cases z))];exact Sf _ _ hb10
     ·rw [hy] at hv2;cases hv2
   ·rintro σ H10 ⟨R10,ls,hb10,o9,rfl⟩;rw [zq3,lps,dZ] at R10;exact ⟨R10,zAJ _ _ _ rfl⟩
  ·rintro σ H7 ⟨R,o6,o7,o8,rfl⟩;rw [lw,dZ] at R;refine later ?_;rwa [];obtain ⟨kv2,e7,w7⟩:=R.now;refine later ?_;rwa [];exact zBG lo kv2 _ _ _ _ (zAI rfl R.same R.fr e7 w7)
 ·rw [hv];rw [zq0 Jll];refine later ?_;rwa [];refine zAA wb _ rfl (by have z:=DGet.t (k:=km (List.range n)) e4 (by rw [uq];exact s4 _ _ e2);rw [hv] at z;exact z) ?_;exact q c r w'.2 H4 (s2.trans s4) hl (by rw [<- hk'];exact hw') hno
theorem nW{n:Nat}{w x:List Nat×List (List Nat)}:∀(bs:List (List Nat)) (acc:List (List Nat×List (List Nat))),x∈GD.ee n acc w bs->x∈acc\/∃b∈bs,x=(GD.cS n w.1 b,w.2++[b])
 | [],_,h=>.inl h
 |b::bs,acc,h=>by
  rcases nW bs _ h with h | ⟨c,hc,e⟩
  ·rcases GD.iN h with h | h
   ·exact .inl h
   ·exact .inr (zn b Jll h)
  ·exact .inr (zn c (zq9 _ hc) e)
theorem qt{n:Nat}{G:Nat->Nat->Option Int}{so:Nat->Nat}{U:Nat->Int}{x:List Nat×List (List Nat)}:∀(ws acc:List (List Nat×List (List Nat))),x∈ws.foldl (fun acc w=>GD.ee n acc w (GD.c5 G so U n w.1)) acc->x∈acc\/∃w∈ws,∃b∈GD.c5 G so U n w.1,x=(GD.cS n w.1 b,w.2++[b])
 | [],_,h=>.inl h
 |w::ws,acc,h=>by
  rcases qt ws _ h with h | ⟨v,hv,e⟩
  ·rcases nW _ _ h with h | ⟨b,hb,e⟩
   ·exact .inl h
   ·exact .inr (zn w Jll (zn b hb e))
  ·exact .inr (zn v (zq9 _ hv) e)
structure tH(G:Nat->Nat->Option Int)(so:Nat->Nat)(U:Nat->Int)(bss:List (List Nat))(dn:List Nat):Prop where
 ne:∀b∈bss,b≠[]
 srt:∀b∈bss,b.Pairwise (· < ·)
 perm:bss.flatten.Perm dn
 load:∀b∈bss,∀s,s<3->(GD.fq so b s:Int)<=U s
 lean:∀(i:Nat)b k,bss[i]?=some b->k∈b->∀j,j<k->∀l,G j k=some l->∃(i':Nat)(b':List Nat),bss[i']?=some b'/\j∈b'/\(i':Int)+l<=i
theorem mt{n:Nat}{G:Nat->Nat->Option Int}{so:Nat->Nat}{U:Nat->Int}(hU:∀s,s<3->0<U s)(hG:∀j k l,G j k=some l->l<=1):∀r,(∀k,k<r->List.range n∉(GD.cj G so U n k).map (·.1))->∀w∈GD.cj G so U n r,tH G so U w.2 w.1
 |0,_,w,hw=>by
  rw [GD.cj,zq10] at hw;subst hw;exact ⟨fun b h=>(by cases h),fun b h=>(by cases h),.refl _,fun b h=>(by cases h),fun i b k h=>by simp at h⟩
 |r+1,hno,w,hw=>by
  rcases qt _ _ hw with h | ⟨v,hv,b,hb,rfl⟩
  ·cases h
  have ih:=mt hU hG r (fun k hk=>hno k Jlk) v hv;have hcan:=((GD.ik r).lay v hv).1.can;have hne:v.1≠List.range n:=fun e=>hno r Jlk (zq36.mpr (zn v hv e));have fb:=GD.iE hU hb;refine ⟨fun c hc=>?_,fun c hc=>?_,?_,fun c hc=>?_,fun i c k hi hk j hj l hl=>?_⟩
  ·rcases zq18.mp hc with hc | hc
   ·exact ih.ne c hc
   ·rw [zq10.mp hc];exact GD.uf hU hb (hcan.miss hne)
  ·rcases zq18.mp hc with hc | hc
   ·exact ih.srt c hc
   ·rw [zq10.mp hc];exact List.Pairwise.sublist fb.sub GD.fz
  ·rw [List.flatten_append];simp only [List.flatten_cons,List.flatten_nil,List.append_nil];exact (ih.perm.append_right b).trans (GD.jV hcan fb.sub)
  ·rcases zq18.mp hc with hc | hc
   ·exact ih.load c hc
   ·rw [zq10.mp hc];exact fb.load
  ·by_cases hlt:i<v.2.length
   ·rw [jp hlt] at hi;obtain ⟨i',b',h1,h2,h3⟩:=ih.lean i c k hi hk j hj l hl;have:=(zq11.mp h1).1;exact zAA i' b' (by rw [jp this];exact h1) h2 h3
   ·have hil:=(zq11.mp hi).1;rw [zq7,bV] at hil;obtain rfl:i=v.2.length:=by omega
    rw [iy (zq5 _),rg] at hi
    cases hi
    have z:=fb.lean k hk j hj;unfold GD.cP at z;rw [hl] at z;simp only [Bool.or_eq_true,Bool.and_eq_true,decide_eq_true_eq] at z;rcases z with z | ⟨z1,z2⟩
    ·obtain ⟨b',hb',hjb⟩:=zq123.mp (ih.perm.mem_iff.mpr z);obtain ⟨i',hi',e⟩:=List.mem_iff_getElem.mp hb';refine zAA i' b' (by rw [jp hi',zq6 hi',e]) hjb ?_;have:=hG j k l hl;omega
    ·exact zAA v.2.length b (by rw [iy (zq5 _),rg];rfl) z2 Jlk
theorem Fh{ds:List FB.Deed}{j k:Nat}{l:Int}(h:aQ ds j k=some l):0<=l/\l<=1:=by
 unfold aQ at h
 split at h
 ·unfold FB.oT at h
  split at h
  ·cases h;decide
  ·split at h
   ·cases h;decide
   ·split at h
    ·cases h;decide
    ·cases h
 ·cases h
variable {i:Nat} {us:List Int}
def jJ(ds:List FB.Deed)(p:Nat):FB.Deed:=ds.getD p (.tell (.word 0))
def aU(ds:List FB.Deed)(bss:List (List Nat)):List (List FB.Deed):=bss.map fun b=>b.map (jJ ds)
def wrB(ds:List FB.Deed)(n:Str):Bool:=ds.any fun d=>decide (wrV d=.str n)
def gU(bs:List (List FB.Deed)):List FB.Deed:=bs.getLastD []
def jb(bs:List (List FB.Deed)):FZ.Ed->Bool
 | .choose n _ _=>wrB (gU bs) n
 |_=>false
def eC(b:FZ.Blk)(bss:List (List Nat)):List (List FB.Deed):=if (aU b.ds bss).isEmpty || jb (aU b.ds bss) b.ed then aU b.ds bss++[[]] else aU b.ds bss
def IB(fs:List Nat):FZ.Ed->FZ.Ed
 | .stop=>.stop
 | .go i=>.go (fs.getD i 0)
 | .choose n i j=>.choose n (fs.getD i 0) (fs.getD j 0)
def eK(l:List (List (List FB.Deed))):Nat:=(l.map List.length).sum
def bR(bbs:List (List (List FB.Deed))):List Nat:=(List.range bbs.length).map fun i=>eK (bbs.take i)
def je(m:Nat)(bs:List (List FB.Deed))(ed:FZ.Ed):List FZ.Blk:=(bs.dropLast.mapIdx fun j d=>⟨d,.go (m+j+1)⟩)++[⟨gU bs,ed⟩]
def rm(fs:List Nat)(acc:List FZ.Blk)(p:FZ.Blk×List (List FB.Deed)):List FZ.Blk:=acc++je acc.length p.2 (IB fs p.1.ed)
def gK(B:List FZ.Blk)(bbs:List (List (List FB.Deed))):List FZ.Blk:=(B.zip bbs).foldl (rm (bR bbs)) []
def ff(us:List Int)(b:FZ.Blk)(bs:List (List FB.Deed)):Prop:=∃bss,tH (aQ b.ds) (soN b.ds) (uN us) bss (List.range b.ds.length)/\bs=eC b bss
theorem lh{b:FZ.Blk}{bss:List (List Nat)}:eC b bss≠[]:=by
 unfold eC
 split
 ·simp
 ·next h=>intro z;rw [z] at h;exact h rfl
theorem Ca{bs:List (List FB.Deed)}(h:bs≠[]):bs=bs.dropLast++[gU bs]:=by unfold gU;rw [Bn,List.getLast?_eq_some_getLast h,Option.getD_some];exact (xy h).symm
theorem xb{m:Nat}{bs:List (List FB.Deed)}{ed:FZ.Ed}(h:bs≠[]):(je m bs ed).length=bs.length:=by unfold je;rw [zq7,Bo,nN,bV];have:=zq56.mpr h;omega
theorem pU{m:Nat}{bs:List (List FB.Deed)}{ed:FZ.Ed}(h:bs≠[]):∀r∈je m bs ed,r.ds∈bs:=fun r hr=>by
 unfold je at hr;rw [Ca h];rcases zq18.mp hr with hr | hr
 ·obtain ⟨j,hj,e⟩:=List.mem_mapIdx.mp hr;rw [<- e];exact iu _ (iz _)
 ·rw [zq10.mp hr];exact d5 _ (zq10.mpr rfl)
theorem pV{m:Nat}{bs:List (List FB.Deed)}{ed:FZ.Ed}(h:bs≠[]):∀r∈je m bs ed,r.ed=ed\/∃k,r.ed=.go k/\k<m+bs.length:=fun r hr=>by
 unfold je at hr;rcases zq18.mp hr with hr | hr
 ·obtain ⟨j,hj,e⟩:=List.mem_mapIdx.mp hr;rw [<- e];rw [nN] at hj;exact .inr (zn _ rfl Jlk)
 ·rw [zq10.mp hr];exact .inl rfl
theorem eL{bbs:List (List (List FB.Deed))}{bs:List (List FB.Deed)}(h:bbs[i]?=some bs):eK (bbs.take (i+1))=eK (bbs.take i)+bs.length:=by obtain ⟨hi,e⟩:=zq11.mp h;unfold eK;rw [dy hi,e,cg,Bg];simp
theorem jy{bbs:List (List (List FB.Deed))}(i:Nat):eK (bbs.take i)<=eK bbs:=by
 unfold eK
 conv=>rhs;rw [<- EX i bbs,cg,Bg]
 exact nR _ _
theorem lM{bbs:List (List (List FB.Deed))}(hne:∀bs∈bbs,bs≠[])(hi:i<bbs.length):(bR bbs).getD i 0=eK (bbs.take i)/\eK (bbs.take i)<eK bbs:=by
 refine ⟨?_,?_⟩
 ·unfold bR;rw [cw,bE,qT hi];rfl
 ·have h1:=eL (zq6 hi);have h2:=jy (bbs:=bbs) (i+1);have h3:=zq56.mpr (hne _ (iz hi));omega
def iP(B:List FZ.Blk)(bbs:List (List (List FB.Deed)))(i:Nat):List FZ.Blk:=((B.zip bbs).take i).foldl (rm (bR bbs)) []
theorem fX{B:List FZ.Blk}{bbs:List (List (List FB.Deed))}{b:FZ.Blk}{bs:List (List FB.Deed)}(hb:B[i]?=some b)(hs:bbs[i]?=some bs):iP B bbs (i+1)=rm (bR bbs) (iP B bbs i) (b,bs):=by
 have hz:(B.zip bbs)[i]?=some (b,bs):=by rw [EW];exact ⟨hb,hs⟩
 obtain ⟨hi,e⟩:=zq11.mp hz;unfold iP;rw [dy hi,e,nQ];rfl
theorem fF{B:List FZ.Blk}{bbs:List (List (List FB.Deed))}(hl:B.length=bbs.length):iP B bbs B.length=gK B bbs:=by unfold iP gK;rw [rf (by rw [List.length_zip];omega)]
theorem fG{B:List FZ.Blk}{bbs:List (List (List FB.Deed))}(hl:B.length=bbs.length)(hne:∀bs∈bbs,bs≠[]):∀i,i<=B.length->(iP B bbs i).length=eK (bbs.take i)
 |0,_=>rfl
 |i+1,hi=>by have hb:B[i]?=some B[i]:=zq6 Jlk;have hs:bbs[i]?=some bbs[i]:=zq6 Jlk;rw [fX hb hs,eL hs,rm,zq7,fG hl hne i Jlk,xb (hne _ (iz _))]
theorem AE{ns:List Str}{w:Int}{us:List Int}{B:List FZ.Blk}{bbs:List (List (List FB.Deed))}(hl:B.length=bbs.length)(hne:∀bs∈bbs,bs≠[])(hG:FZ.jg ns w B.length B)(hd:∀(i:Nat)b bs,B[i]?=some b->bbs[i]?=some bs->∀l∈bs,l.length<=8/\∀d∈l,d∈b.ds):
  ∀i,i<=B.length->FZ.jg ns w (eK bbs) (iP B bbs i)
 |0,_=>fun r hr=>by cases hr
 |i+1,hi=>fun r hr=>by
  have hb:B[i]?=some B[i]:=zq6 Jlk;have hs:bbs[i]?=some bbs[i]:=zq6 Jlk;have hn:=hne _ (bD hs);rw [fX hb hs,rm] at hr;rcases zq18.mp hr with hr | hr
  ·exact AE (us:=us) hl hne hG hd i Jlk r hr
  have hbG:=hG _ (bD hb);have h1:=hd i _ _ hb hs r.ds (pU hn r hr);have ht:∀k,k∈B[i].ed.tg->(bR bbs).getD k 0<eK bbs:=fun k hk=>by have hz:=lM hne (i:=k) (by have:=hbG.tg k hk;omega);rw [hz.1];exact hz.2
  refine ⟨fun d hd2=>hbG.gd d (h1.2 d hd2),h1.1,?_,?_⟩
  ·rcases pV hn r hr with e | ⟨k,e,hk⟩
   ·rw [e]
    cases he:B[i].ed with
    |stop=>intro z hz;cases hz
    |go k=>rw [he] at ht;intro z hz;rw [zq10.mp hz];exact ht k (by simp [FZ.Ed.tg])
    |choose n k j=>
     rw [he] at ht;intro z hz;have hz':z∈[(bR bbs).getD k 0,(bR bbs).getD j 0]:=hz;rcases zq12.mp hz' with y | y
     ·rw [y];exact ht k (by simp [FZ.Ed.tg])
     ·rw [zq10.mp y];exact ht j (by simp [FZ.Ed.tg])
   ·rw [e];intro z hz;rw [zq10.mp hz];rw [fG hl hne i Jlk] at hk;have h2:=eL hs;have h3:=jy (bbs:=bbs) (i+1);omega
  ·intro n k j e2;rcases pV hn r hr with e | ⟨k',e,_⟩
   ·rw [e] at e2
    cases he:B[i].ed with
    |stop=>rw [he] at e2;cases e2
    |go k=>rw [he] at e2;cases e2
    |choose n' k' j'=>rw [he] at e2;cases e2;exact hbG.nm n k' j' he
   ·rw [e] at e2;cases e2
theorem vt{B:List FZ.Blk}{bbs:List (List (List FB.Deed))}(hl:B.length=bbs.length)(hne:∀bs∈bbs,bs≠[]){Z:List FB.Deed->Prop}(hz:∀bs∈bbs,∀l∈bs,Z l):∀i,i<=B.length->∀r∈iP B bbs i,Z r.ds
 |0,_=>fun r hr=>by cases hr
 |i+1,hi=>fun r hr=>by
  have hb:B[i]?=some B[i]:=zq6 Jlk;have hs:bbs[i]?=some bbs[i]:=zq6 Jlk;rw [fX hb hs,rm] at hr;rcases zq18.mp hr with hr | hr
  ·exact vt hl hne hz i Jlk r hr
  ·exact hz _ (bD hs) _ (pU (hne _ (bD hs)) r hr)
structure BeatP(us:List Int)(l:List FB.Deed):Prop where
 one:l.Pairwise fun d e=>¬(d.tells=true/\e.tells=true)/\∀n∈d.writes,n∉e.writes
 load:∀s,s<3->((l.countP fun d=>decide (md d=s)):Int)<=uN us s
theorem BeatP.nil(h:∀s,s<3->0<=uN us s):BeatP us []:=⟨.nil,fun s hs=>h s hs⟩
theorem oR:∀{bss:List (List Nat)} {i i':Nat} {b b':List Nat} {j:Nat},bss.flatten.Nodup->bss[i]?=some b->bss[i']?=some b'->j∈b->j∈b'->i=i'
 | [],i,i',b,b',j,_,h,_,_,_=>by simp at h
 |c::r,i,i',b,b',j,nd,h,h',m,m'=>by
  rw [Bp,zq75] at nd
  match i,i',h,h' with
  |0,0,_,_=>rfl
  |0,k+1,h,h'=>
   cases h
   exact absurd rfl (nd.2.2 j m j (zq123.mpr (zn b' (bD h') m')))
  |k+1,0,h,h'=>
   cases h'
   exact absurd rfl (nd.2.2 j m' j (zq123.mpr (zn b (bD h) m)))
  |k+1,k'+1,h,h'=>rw [oR nd.2.1 h h' m m']
theorem iF{ds:List FB.Deed}{bss:List (List Nat)}(h:tH (aQ ds) (soN ds) (uN us) bss (List.range ds.length)):∀b∈bss,BeatP us (b.map (jJ ds))/\b.length<=ds.length/\∀p∈b,p<ds.length:=fun b hb=>by
 have nd:bss.flatten.Nodup:=h.perm.nodup_iff.mpr List.nodup_range;have lt:∀p∈b,p<ds.length:=fun p hp=>zq40.mp (h.perm.mem_iff.mp (zq123.mpr (zn b hb hp)));obtain ⟨i,hi⟩:=zq76.mp hb;refine zAB ⟨?_,fun s hs=>?_⟩ ?_ lt
 ·rw [List.pairwise_map];refine List.Pairwise.imp_of_mem (fun {j k} hj hk hjk=>?_) (h.srt b hb);have no:aQ ds j k≠some 1:=fun e=>by obtain ⟨i',b',h1,h2,h3⟩:=h.lean i b k hi hk j hjk 1 e;have:=oR nd hi h1 hj h2;omega
  have e1:ds[j]?=some (jJ ds j):=by unfold jJ;rw [cw,zq6 (lt j hj)];rfl
  have e2:ds[k]?=some (jJ ds k):=by unfold jJ;rw [cw,zq6 (lt k hk)];rfl
  unfold aQ at no;rw [e1,e2] at no;dsimp only at no;unfold FB.oT at no;refine ⟨fun z=>?_,fun n hn hn2=>?_⟩
  ·rw [zq1 z] at no;exact no rfl
  ·split at no
   ·exact no rfl
   ·rw [zq1 ⟨n,hn,.inr hn2⟩] at no;exact no rfl
 ·have z:=h.load b hb s hs;unfold GD.fq at z;rw [Bl];exact z
 ·have z:=h.perm.length_eq;rw [eg] at z;have:=(List.sublist_flatten_of_mem hb).length_le;omega
theorem dR{b:FZ.Blk}{bs:List (List FB.Deed)}(hu:∀s,s<3->0<=uN us s)(h8:b.ds.length<=8)(h:ff us b bs):bs≠[]/\∀l∈bs,BeatP us l/\l.length<=8/\∀d∈l,d∈b.ds:=by
 obtain ⟨bss,hg,rfl⟩:=h;refine ⟨lh,fun l hl=>?_⟩;have old:l∈aU b.ds bss->BeatP us l/\l.length<=8/\∀d∈l,d∈b.ds:=fun hl=>by obtain ⟨c,hc,rfl⟩:=zq36.mp hl;obtain ⟨h1,h2,h3⟩:=iF hg c hc;refine zAB h1 (by rw [zq3];omega) fun d hd=>?_;obtain ⟨p,hp,rfl⟩:=zq36.mp hd;unfold jJ;rw [cw,zq6 (h3 p hp)];exact iz _
 unfold eC at hl
 split at hl
 ·rcases zq18.mp hl with hl | hl
  ·exact old hl
  ·rw [zq10.mp hl];exact zAB (BeatP.nil hu) (cq _) (fun d hd=>by cases hd)
 ·exact old hl
def qI(l:List FB.Deed):List Str:=l.flatMap FB.Deed.writes
def bfB(us:List Int)(l:List FB.Deed):Bool:=decide ((dF (qI l)).length=(qI l).length)&&decide (l.length<=(qI l).length+1)&&(List.range 3).all fun s=>decide (((l.countP fun d=>decide (md d=s)):Int)<=uN us s)
theorem I0{d:FB.Deed}:d.writes.length=if d.tells then 0 else 1:=by cases d<;>rfl
theorem AM:∀{l:List FB.Deed},(l.Pairwise fun d e=>¬(d.tells=true/\e.tells=true)/\∀n∈d.writes,n∉e.writes)->(qI l).Nodup/\l.length<=(qI l).length+1/\((∀d∈l,d.tells=false)->(qI l).length=l.length)
 | [],_=>zAB BB (cq _) fun _=>rfl
 |d::l,h=>by
  rw [Bc] at h;obtain ⟨h1,h2,h3⟩:=AM h.2;have e:qI (d::l)=d.writes++qI l:=rfl;rw [e,zq7,cW,I0];refine zAB (zq75.mpr (zAB (by cases d<;>simp [FB.Deed.writes]) h1 fun a ha b hb ab=>?_)) ?_ fun z=>?_
  ·subst ab;obtain ⟨c,hc,hac⟩:=zq120.mp hb;exact (h.1 c hc).2 a ha hac
  ·split
   ·next ht=>
    have:=h3 fun c hc=>by
     cases hct:c.tells with
     |false=>rfl
     |true=>exact absurd ⟨ht,hct⟩ (h.1 c hc).1
    omega
   ·omega
  ·rw [zq0 (by rw [z d Jll];decide),h3 fun c hc=>z c (zq9 _ hc)];omega
theorem BeatP.bf{l:List FB.Deed}(h:BeatP us l):bfB us l=true:=by obtain ⟨h1,h2,_⟩:=AM h.one;unfold bfB;rw [cf ((wN _).2.2.mpr h1),cf h2,vG,vG,zq44];exact fun s hs=>cf (h.load s (zq40.mp hs))
def xN(K:W.Frag)(e f:Addr)(H:Hp)(Q:VK):Prop:=∃(ed:FZ.Ed)(fs:List Nat),H e=some (.tup (dC ed))/\SqL K H f (nl fs)/\(∀i∈ed.tg,i<fs.length)/\∀e' H',Same H H'->H' e'=some (.tup (dC (IB fs ed)))->Q (.ref e') H'
def Ah(K:W.Frag):Sp:=fun vs H Q _=>∃e f:Addr,vs=[.ref e,.ref f]/\xN K e f H Q
def tU(K:W.Frag)(a:Addr)(n:Str)(H:Hp)(Q:VK):Prop:=∃(xs:List V)(ds:List FB.Deed),SqL K H a xs/\Paired (DeedV1 K H) xs ds/\ds.length<=1000/\∀H',Same H H'->Q (.bl (wrB ds n)) H'
def vm(K:W.Frag):Sp:=fun vs H Q _=>∃(a:Addr)(n:Str),vs=[.ref a,.str n]/\tU K a n H Q
section
variable {K:W.Frag} {te:TE} {ci:List Nat} {σ:L2.St} {acc:Addr} {Q:Hp->Prop} {H1:Hp} {a:Addr} {xs:List V}
theorem jr(fs:List V)(hz:xs.length<=sizeLine)(hlen:xs.length=fs.length)(hl:SqL K H1 a xs)(hacc:H1 acc=none)
  (hf:∀(i:Nat)x y,xs[i]?=some x->fs[i]?=some y->∀H Q',Same H1 H->(∀H',Same H H'->Q' y H')->te (aI [some x] ci σ) H Q')
  (q:∀H,Same H1 H->H acc=some (.lst fs)->Q H):cv (Itl K a) (bK 1) jo te 1 ci σ acc Q (upd H1 acc (.lst [])):=by
 refine d6 (fun i ys H=>ys=fs.take i/\Same H1 H/\H acc=some (.lst ys)) (zAB Jll (Same.upd hacc) ac) (fun i ys H _ h=>h.2.1.seq hl) ?_ ?_
 ·rintro i x ys H os hi ho ⟨rfl,sm,ha⟩;have hi':i<fs.length:=by have:=(zq11.mp hi).1;omega
  have e:(aI os ci σ).set 1 (some x)=aI [some x] ci σ:=by
   match os,ho with
   | [o],_=>rfl
  show (∃os',os'.length=1/\(aI os ci σ).set 1 (some x)=aI os' ci σ)/\jo ((aI os ci σ).set 1 (some x)) H _;rw [e];refine ⟨zn ([some x]) rfl rfl,?_⟩;unfold jo;dsimp only;rw [zq1 rfl];exact hf i x fs[i] hi (zq6 hi') _ _ sm fun H3 s3=>zAI (s3 _ _ ha) (by rw [dw];omega) (dy hi').symm ((sm.trans s3).updM hacc) ac
 ·rintro ys H ⟨rfl,sm,ha⟩;rw [hlen,dZ] at ha;exact q H sm ha
end
theorem uS{e f:Addr}{H:Hp}{Q:VK}{E:XK}:Ah K [.ref e,.ref f] H Q E=xN K e f H Q:=propext ⟨by rintro ⟨_,_,e,q⟩;cases e;exact q,fun q=>zAD _ _ rfl q⟩
theorem zY{a:Addr}{n:Str}{H:Hp}{Q:VK}{E:XK}:vm K [.ref a,.str n] H Q E=tU K a n H Q:=propext ⟨by rintro ⟨_,_,e,q⟩;cases e;exact q,fun q=>zAD _ _ rfl q⟩
theorem mY{fs:List Nat}{i:Nat}(h:i<fs.length):(nl fs)[i]?=some (V.int (fs.getD i 0)):=by unfold nl;rw [bE,cw,zq6 h];rfl
theorem FC(T:Txt K mg t):FnOk P w K mg base CX0 1 t.f_102 t.e_102 ["ending","places"] (Ah K):=by
 refine T.d_102.F.ok A8 ∅ ?_;rintro cdv A outer s H vs Q E hr ⟨e,f,rfl,ed,fs,he,hf,ht,q⟩;refine ⟨_,
   (XSs.h
   (ai
    (aH (ar aT (ap ay (yqv 0 vl) aj) aC (az _))
     (ak
      (aw (aG (aa aC (aa (ap aN (yqv 1 vl) (ap ay (yqv 0 vl) aj)) ae)))))
     aD)
   (ai
    (aH (ar aT (ap ay (yqv 0 vl) aj) aC (az _))
     (ak
      (aw (aG (aa aC (aa (ap ay (yqv 0 vl) aj) (aa (ap aN (yqv 1 vl) (ap ay (yqv 0 vl) aj)) (aa (ap aN (yqv 1 vl) (ap ay (yqv 0 vl) aj)) ae)))))))
     aD)
   (ak
    (aw (yqv 0 vl)))))),?_⟩
 rw [show aO _ [V.ref e,V.ref f]=[some (.ref e),some (.ref f)] from rfl];rwa []
 cases ed with
 |stop=>
  refine zAE _ _ (SqT.of he) rfl rfl (zn _ rfl ?_);rw [zq0 Jkk];refine zAE _ _ (SqT.of he) rfl rfl (zn _ rfl ?_);rw [zq0 Jkk];exact q e H (Same.refl H) he
 |go i=>
  refine zAE _ _ (SqT.of he) rfl rfl (zn _ rfl ?_);rw [zq1 Jkk];exact zAA _ _ (SqT.of he) rfl (ixL hf (mY (ht i (by simp [FZ.Ed.tg]))) fun p hp=>q p _ (Same.upd hp) ac)
 |choose n i j=>refine zAE _ _ (SqT.of he) rfl rfl (zn _ rfl ?_);rw [zq0 Jkk];refine zAE _ _ (SqT.of he) rfl rfl (zn _ rfl ?_);rw [zq1 Jkk];exact zAA _ _ (SqT.of he) rfl (zAA _ _ (SqT.of he) rfl (ixL hf (mY (ht i (by simp [FZ.Ed.tg]))) (zAA _ _ (SqT.of he) rfl (ixL hf (mY (ht j (by simp [FZ.Ed.tg]))) fun p hp=>q p _ (Same.upd hp) ac))))
theorem Cw(T:Txt K mg t):FnOk P w K mg base CX0 2 t.f_139 t.e_139 ["deeds","name"] (vm K):=by
 have G_125:=@gH P w K mg base t T;refine T.d_139.F.ok HJ ∅ ?_;rintro cdv A outer s H vs Q E hr ⟨a,n,rfl,xs,ds,ha,hd,hl,q⟩;refine ⟨_,
   (XSs.h
   (ak
    (aw (aL (ot rfl) gl T.z_any boot_any (aa (bI (tns:=["deed"]) (cns:=["name"]) (ci:=[1]) rfl (CompSc.of Jkl) (aY (yqv 0 vl)) (fun _=>(aA (i:=1) (show List.Nodup [(".0":Str),("deed":Str),("name":Str)] by decide +kernel) rfl ll (Or.inr Jkl))) (fun _=>bY) (fun _=>(bQ aT (au T.d_125 G_125 hr.m (aa (yqv 1 vl) ae) gl) (yqv 2 vc) (az _)))) ae))))),?_⟩
 rw [show aO _ [V.ref a,V.str n]=[some (.ref a),some (.str n)] from rfl];rwa [dN];have lx:=hd.length;refine ⟨⟨_,ha⟩,fun acc hacc bk=>?_⟩;refine jr (ds.map fun d=>V.bl (decide (wrV d=.str n))) (by rw [zq8];omega) (by rw [zq3];exact lx) ha hacc (fun i x y hx hy H2 Q' s2 h=>?_) fun H2 s2 e2=>?_
 ·obtain ⟨d,hd1,q0,rfl,hq0,hf⟩:=Paired.get hd hx;rw [bE,hd1] at hy
  cases hy
  rwa [dN];refine zAG d (s2.seqT hq0) hf ?_ (h H2 (Same.refl H2))
  cases d<;>rfl
 ·refine zn (ds.map fun d=>decide (wrV d=.str n)) (SqL.of (by rw [fJ];exact e2)) ?_;rw [Bm];exact q H2 s2
def BtsV(K:W.Frag)(N:Addr->Prop)(H:Hp)(c:Addr)(bs:List (List FB.Deed)):Prop:=∃ps:List Addr,H c=some (.lst (ps.map V.ref))/\Paired (fun p (l:List FB.Deed)=>N p/\∃vs,H p=some (.lst vs)/\Paired (DeedV1 K H) vs l) ps bs
structure Id(K:W.Frag)(H:Hp)(q u:Addr)(b:FZ.Blk)(us:List Int):Prop where
 ex:∃a e vs,H q=some (.tup [.ref a,.ref e])/\H a=some (.lst vs)/\Paired (DeedV1 K H) vs b.ds/\H e=some (.tup (dC b.ed))
 h8:b.ds.length<=8
 ut:SqT K H u (us.map V.int)
 h3:us.length=3
 hp:∀x∈us,0<x/\x<=3
def nY(K:W.Frag)(q u:Addr)(H:Hp)(Q:VK):Prop:=∃(b:FZ.Blk)(us:List Int),Id K H q u b us/\∀c bs H',Same H H'->H c=none->ff us b bs->BtsV K (fun p=>H p=none) H' c bs->Q (.ref c) H'
def pZ(K:W.Frag):Sp:=fun vs H Q _=>∃q u:Addr,vs=[.ref q,.ref u]/\nY K q u H Q
theorem uM{q u:Addr}{H:Hp}{Q:VK}{E:XK}:pZ K [.ref q,.ref u] H Q E=nY K q u H Q:=propext ⟨by rintro ⟨_,_,e,q⟩;cases e;exact q,fun q=>zAD _ _ rfl q⟩
theorem uR{a b:Addr}{H:Hp}{Q:VK}{E:XK}:qa K [.ref a,.ref b] H Q E=∃(ds:List FB.Deed)(us:List Int),mx K H a b ds us/\∀c r bss H',Same H H'->LLN H' c bss->(List.range ds.length,bss)∈GD.cj (aQ ds) (soN ds) (uN us) ds.length r->(∀k,k<r->List.range ds.length∉(GD.cj (aQ ds) (soN ds) (uN us) ds.length k).map (·.1))->Q (.ref c) H':=propext ⟨by rintro ⟨_,_,ds,us,e,q⟩;cases e;exact zAH ds us q,fun ⟨ds,us,q⟩=>zAP _ _ ds us rfl q⟩
theorem nG{us:List Int}(h3:us.length=3)(hp:∀x∈us,0<x/\x<=3):∀s,s<3->0<uN us s:=fun s hs=>by unfold uN;rw [cw,zq6 Jlk];exact (hp _ (iz _)).1
theorem oU{G:Nat->Nat->Option Int}{so:Nat->Nat}{U:Nat->Int}{bss:List (List Nat)}{dn:List Nat}(h:tH G so U bss dn):bss.length<=dn.length:=by
 have z:=h.perm.length_eq;have g:∀l:List (List Nat),(∀b∈l,b≠[])->l.length<=l.flatten.length:=fun l=>by
  induction l with
  |nil=>intro _;exact cq _
  |cons b l ih=>intro hl;have h1:=ih fun c hc=>hl c (zq9 _ hc);have h2:=zq56.mpr (hl b Jll);rw [Bp,zq7,cW];omega
 have:=g bss h.ne;omega
theorem yL(T:Txt K mg t)(hw:t.pr=w.params):FnOk P w K mg base CX0 15 t.f_138 t.e_138 ["block","units"] (pZ K):=by
 have G_130:=@yO P w K mg base t T hw;have G_139:=@Cw P w K mg base t T;refine T.d_138.F.ok sc_138 ∅ ?_;rintro cdv A outer s H vs Q E hr ⟨q,u,rfl,b,us,hB,qk⟩;have hu:=fi hr;refine ⟨_,
   (XSs.h
   (ai
    (aq (i:=2) sc_138.nd rfl lc (ap ay (yqv 0 vl) aj))
   (ai
    (aq (i:=3) sc_138.nd rfl ll (ap ay (yqv 0 vl) aj))
   (ai
    (ez (i:=4) sc_138.nd rfl ll rfl Jkl (tns:=["beat"]) (cns:=["deeds"]) (ci:=[2]) rfl (CompSc.of Jkl) (aY (au T.d_130 G_130 hr.m (aa (yqv 2 vc) (aa (yqv 1 vl) ae)) gl)) (fun _=>(aA (i:=1) (show List.Nodup [(".0":Str),("beat":Str),("deeds":Str)] by decide +kernel) rfl ll (Or.inr Jkl))) (fun _=>bY) (fun _=>(bI (tns:=["place"]) (cns:=["deeds"]) (ci:=[2]) rfl (CompSc.of Jkl) (aY (yqv 1 vl)) (fun _=>(aA (i:=1) (show List.Nodup [(".0":Str),("place":Str),("deeds":Str)] by decide +kernel) rfl ll (Or.inr Jkl))) (fun _=>bY) (fun _=>(ap aN (yqv 2 vc) (yqv 1 vl))))))
   (ai
    (aH (cE (iU (ar (z8 (n:=0) (oX Jkm hr)) (yqv 4 vl) (aJ ae) (az _)) (ir (cE (cK (ar aT (ap ay (yqv 3 vl) aj) aC (az _)) (cB (d9 (au T.d_139 G_139 hr.m (aa (ap aN (yqv 4 vl) (iT gc aj)) (aa (ap ay (yqv 3 vl) aj) ae)) gl))))))))
     (ak
      (aR (c7 PySem.F.plainAttrs_list PySem.F.slot_list_append PySem.F.type_list_append aZ (yqv 4 vl) (aa (aJ ae) ae))))
     aD)
   (ak
    (aw (yqv 4 vl)))))))),?_⟩
 rw [show aO _ [V.ref q,V.ref u]=[some (.ref q),some (.ref u),none,none,none] from rfl];simp_arith! [uR,zY];obtain ⟨a,e,vs,hq,ha,hvs,he⟩:=hB.ex;have hds:DeedsV K H vs b.ds:=FL.Paired.imp hvs fun x _ d _ ⟨q0,e1,z1,z2⟩=>⟨z2,zn q0 e1 z1⟩
 have lvs:=hvs.length;have h8:=hB.h8;refine zAA _ _ (SqT.of hq) rfl ?_;refine later ?_;simp_arith! [];refine zAA _ _ (SqT.of hq) rfl ?_;refine later ?_;simp_arith! [uR];refine zAD b.ds us ⟨vs,zAQ (SqL.of ha) hds h8 hB.ut hB.h3 hB.hp⟩ fun c r bss H1 s1 hL hmem hno=>?_;have hg:=mt (nG hB.h3 hB.hp) (fun j k l hl=>(Fh hl).2) r hno _ hmem;obtain ⟨ps,hc,hps⟩:=hL;have lps:=hps.length;have lb:bss.length<=b.ds.length:=by have z:=oU hg;rwa [eg] at z
 have lbd:(aU b.ds bss).length=bss.length:=by unfold aU;rw [zq3]
 refine ⟨⟨_,SqL.of hc⟩,fun acc hacc bk=>?_⟩;refine d6 (xs:=ps.map V.ref) (fun i ys H'=>Same H1 H'/\H' acc=some (.lst ys)/\∃rs:List Addr,ys=rs.map V.ref/\Paired (fun p (l:List FB.Deed)=>H1 p=none/\p≠acc/\∃vs,H' p=some (.lst vs)/\Paired (DeedV1 K H') vs l) rs ((aU b.ds bss).take i)) (zAB (Same.upd hacc) ac (zn ([]) rfl .nil)) (fun i ys H' _ h=>SqL.of (h.1 _ _ hc)) ?_ ?_
 ·rintro i x ys H2 os hi ho ⟨s2,ha2,rs,rfl,hrs⟩;rw [bE] at hi;obtain ⟨p,hp,rfl⟩:=zq42.mp hi;obtain ⟨bt,hbt,hpb⟩:=Paired.get hps hp;obtain ⟨_,_,hlt⟩:=iF hg bt (bD hbt);have eb:(aI os [2] [some (V.ref q),some (V.ref u),some (V.ref a),some (V.ref e),none]).set 1 (some (V.ref p))=aI [some (V.ref p)] [2] [some (V.ref q),some (V.ref u),some (V.ref a),some (V.ref e),none]:=by
   match os,ho with
   | [o],_=>rfl
  show (∃os',os'.length=1/\(aI os [2] [some (V.ref q),some (V.ref u),some (V.ref a),some (V.ref e),none]).set 1 (some (V.ref p))=aI os' [2] _)/\jo ((aI os [2] _).set 1 (some (V.ref p))) H2 _;rw [eb];refine ⟨zn ([some (V.ref p)]) rfl rfl,?_⟩;unfold jo;dsimp only;rw [zq1 rfl];rwa [];refine ⟨⟨_,SqL.of (s2 _ _ hpb)⟩,fun a2 ha2n bk2=>?_⟩;refine jr (bt.map fun p=>vs.getD p .non) (by rw [eZ,zq8];have:=iF hg bt (bD hbt);omega) (by rw [eZ,zq3]) (SqL.of (s2 _ _ hpb)) ha2n (fun j x y hx hy H3 Q' s3 h=>?_) fun H3 s3 e3=>?_
  ·rw [bE] at hy;obtain ⟨pl,hpl,rfl⟩:=zq42.mp hy;rw [IG hpl] at hx
   cases hx
   rwa [];have hpv:=hlt pl (bD hpl);refine zAA _ _ (SqL.of (s3 _ _ (s2 _ _ (s1 _ _ ha)))) (bq (j:=pl) (v:=vs.getD pl .non) (by rw [cw,zq6 Jlk];rfl)) (h H3 (Same.refl H3))
  have na:a2≠acc:=am ha2 ha2n |>.symm
  have s13:=s2.trans s3;have lr:=hrs.length;have e3a:=s3 _ _ ha2;have sf:Same H1 (upd H3 acc (.lst (List.map V.ref rs++[V.ref a2]))):=s13.updM hacc;have tf:TSame H3 (upd H3 acc (.lst (List.map V.ref rs++[V.ref a2]))):=TSame.updL e3a;rw [dw] at lr;refine zAI e3a (by rw [zq3,zq8];omega) sf ac (zn (rs++[a2]) (by rw [cg];rfl) ?_);have et:(aU b.ds bss).take (i+1)=(aU b.ds bss).take i++[bt.map (jJ b.ds)]:=by
   have hb:(aU b.ds bss)[i]?=some (bt.map (jJ b.ds)):=by unfold aU;rw [bE,hbt];rfl
   obtain ⟨h1,h2⟩:=zq11.mp hb;rw [dy h1,h2]
  rw [et];refine FL.Paired.snoc ⟨s2.free ha2n,na,_,by rw [ao na];exact e3,?_⟩ (FL.Paired.imp hrs fun r0 _ l _ ⟨z1,z2,vs2,z3,z4⟩=>zAB z1 z2 (zn vs2 (by rw [ao z2];exact s3 _ _ z3) (FL.Paired.imp z4 fun _ _ _ _ z=>z.ts (s3.ts.trans tf))));refine FL.Paired.of_get (by rw [zq3,zq3]) fun j x d hx hd=>?_;rw [bE] at hx hd;obtain ⟨pl,hpl,rfl⟩:=zq42.mp hx;rw [hpl] at hd
  cases hd
  have hpv:=hlt pl (bD hpl);obtain ⟨d,hd,hdv⟩:=Paired.get hvs (i:=pl) (a:=vs.getD pl .non) (by rw [cw,zq6 Jlk];rfl);have ed:jJ b.ds pl=d:=by unfold jJ;rw [cw,hd];rfl
  rw [ed];exact hdv.ts ((s1.trans s13).ts.trans tf)
 ·rintro ys H2 ⟨s2,ha2,rs,rfl,hrs⟩;rw [zq3,lps,rf (by unfold aU;rw [zq3];exact zq5 _)] at hrs;have s02:=s1.trans s2;refine later ?_;simp_arith! [];have fin:∀H3,Same H2 H3->∀bs,ff us b bs->BtsV K (fun p=>H p=none) H3 acc bs->iY (AA (dY 4)) {nx:=fun x H'=>Q V.non H',rt:=Q} [some (V.ref q),some (V.ref u),some (V.ref a),some (V.ref e),some (V.ref acc)] H3:=fun H3 s3 bs hl hv=>by refine later ?_;rwa [];exact qk acc bs H3 (s02.trans s3) (s1.free hacc) hl hv
  have hv2:∀H3,Same H2 H3->BtsV K (fun p=>H p=none) H3 acc (aU b.ds bss):=fun H3 s3=>zn rs (s3 _ _ ha2) (FL.Paired.imp hrs fun r0 _ l _ ⟨z1,z2,vs2,z3,z4⟩=>⟨s1.free z1,zn vs2 (s3 _ _ z3) (FL.Paired.imp z4 fun _ _ _ _ z=>z.ts s3.ts)⟩)
  have hF:∀z,((aU b.ds bss).isEmpty || jb (aU b.ds bss) b.ed)=z->eC b bss=if z=true then aU b.ds bss++[[]] else aU b.ds bss:=fun z hz=>by unfold eC;rw [hz]
  have lrs:=hrs.length;have stay:∀H3,Same H2 H3->((aU b.ds bss).isEmpty || jb (aU b.ds bss) b.ed)=false->iY (AA (dY 4)) {nx:=fun x H'=>Q V.non H',rt:=Q} [some (V.ref q),some (V.ref u),some (V.ref a),some (V.ref e),some (V.ref acc)] H3:=fun H3 s3 hz=>fin H3 s3 _ (zn bss hg (hF _ hz).symm) (hv2 H3 s3);have grow:∀H3,Same H2 H3->((aU b.ds bss).isEmpty || jb (aU b.ds bss) b.ed)=true->tyV K "list" (V.ref acc) H3/\∀p,H3 p=none->∃xs,upd H3 p (.lst []) acc=some (.lst xs)/\xs.length<sizeLine/\
    iY (AA (dY 4)) {nx:=fun x H'=>Q V.non H',rt:=Q} [some (V.ref q),some (V.ref u),some (V.ref a),some (V.ref e),some (V.ref acc)] (upd (upd H3 p (.lst [])) acc (.lst (xs++[V.ref p]))):=fun H3 s3 hz=>by
   have e3:=s3 _ _ ha2;refine ⟨.inl ⟨rfl,_,SqL.of e3⟩,fun p hp=>?_⟩;have np:p≠acc:=(am e3 hp).symm;have t1:=Same.upd (o:=.lst []) hp;refine zAC _ (t1 _ _ e3) (by rw [zq3,zq8];omega) ?_;have tf:TSame (upd H3 p (.lst [])) (upd (upd H3 p (.lst [])) acc (.lst (List.map V.ref rs++[V.ref p]))):=TSame.updL (t1 _ _ e3);refine later ?_;rwa [];refine qk acc (eC b bss) _ ((s02.trans (s3.trans t1)).updM (s1.free hacc)) (s1.free hacc) (zn bss hg rfl) ?_;rw [hF _ hz,zq1 rfl];refine zn (rs++[p]) (by rw [ac,cg];rfl) (FL.Paired.snoc ⟨s02.free (s3.free hp),[],by rw [ao np];exact ac,.nil⟩ (FL.Paired.imp hrs fun r0 _ l _ ⟨z1,z2,vs2,z3,z4⟩=>⟨s1.free z1,zn vs2 (by rw [ao z2];exact t1 _ _ (s3 _ _ z3)) (FL.Paired.imp z4 fun _ _ _ _ z=>z.ts ((s3.trans t1).ts.trans tf))⟩))
  intro p hp;have t1:=Same.upd (o:=.lst []) hp;refine zn _ (A4 (t1 _ _ ha2) ac) (zn _ rfl (aB (fun hz=>?_) fun hz=>?_))
  ·rw [zq1 trivial];refine grow _ t1 ?_;have:aU b.ds bss=[]:=zq54.mp (by rw [<- lrs,<- zq3 (f:=V.ref),hz];rfl);rw [this];rfl
  have hbe:(aU b.ds bss).isEmpty=false:=by
   cases hbd:aU b.ds bss with
   |nil=>
    rw [hbd] at lrs;exact absurd (by rw [zq54.mp lrs];rfl) hz
   |cons _ _=>rfl
  rw [hbe,AZ] at grow stay;have he2:=t1 _ _ (s02 _ _ he)
  cases hed:b.ed with
  |stop=>
   rw [hed] at stay grow he2;refine zAE _ _ (SqT.of he2) rfl rfl (zn _ rfl ?_);rw [zq0 Jkk];exact stay _ t1 rfl
  |go i=>
   rw [hed] at stay grow he2;refine zAE _ _ (SqT.of he2) rfl rfl (zn _ rfl ?_);rw [zq0 Jkk];exact stay _ t1 rfl
  |choose n i j=>
   rw [hed] at stay grow he2;refine zAE _ _ (SqT.of he2) rfl rfl (zn _ rfl ?_);rw [zq1 Jkk];rcases EY rs with z | ⟨rl,pl,z⟩
   ·exact absurd (by rw [z];rfl) hz
   have hpl:rs[rl.length]?=some pl:=by rw [z,xC,iy (zq5 _),rg];rfl
   obtain ⟨l,hl,_,_,vl,hvl,hdl⟩:=Paired.get hrs hpl;have el:gU (aU b.ds bss)=l:=by unfold gU;rw [Bn,EZ,<- lrs,z,xC,zq7,bV,Bq,hl];rfl
   have hll:l.length<=8:=(dR (fun s hs=>Br (nG hB.h3 hB.hp s hs)) h8 (zn bss hg rfl)).2 l (by
    unfold eC
    split
    ·exact iu _ (bD hl)
    ·exact bD hl) |>.2.1
   refine zAA _ (.ref pl) (SqL.of (t1 _ _ ha2)) (by rw [z,xC,cg];exact fk _ _) (zAA _ _ (SqT.of he2) rfl ?_);rw [zY];refine zAE vl l (SqL.of (t1 _ _ hvl)) (FL.Paired.imp hdl fun _ _ _ _ z=>z.ts t1.ts) Jlk fun H3 s3=>zn _ rfl ?_;have em:jb (aU b.ds bss) (.choose n i j)=wrB l n:=by rw [jb,el]
   rw [em] at grow stay;exact jU (fun h=>grow H3 (t1.trans s3) h) fun h=>stay H3 (t1.trans s3) h
variable {H:Hp}
theorem vY{xs:List V}:gf xs none (some (-1))=xs.dropLast:=by
 unfold gf;rw [HT.pX,B5,qL,List.dropLast_eq_take];have e:HT.sIx xs.length xs.length (some (-1))=xs.length-1:=by show (if (-1:Int)<0 then (-1+(xs.length:Int)).toNat else min (-1:Int).toNat xs.length)=_;rw [zq1 Jkm];omega
 rw [e]
theorem BQ{x:V}{os:List (Option V)}{ci:List Nat}{σ:L2.St}{Z Y:L2.St->Hp->Prop}(ho:os.length=1)(h:Z (aI [some x] ci σ) H):bK 1 x (aI os ci σ) H fun σ1 H1=>(∃os',os'.length=1/\σ1=aI os' ci σ)/\jo σ1 H1 fun b H2=>if b=true then Z σ1 H2 else Y σ1 H2:=by
 have e:(aI os ci σ).set 1 (some x)=aI [some x] ci σ:=by
  match os,ho with
  | [o],_=>rfl
 show (∃os',os'.length=1/\(aI os ci σ).set 1 (some x)=aI os' ci σ)/\jo ((aI os ci σ).set 1 (some x)) H _;rw [e];exact ⟨zn ([some x]) rfl rfl,by unfold jo;dsimp only;rw [if_pos rfl];exact h⟩
def oi(K:W.Frag)(C:Addr)(d:Nat)(p u:Addr)(H:Hp)(Q:VK):Prop:=∃(wd:Int)(ins oth:List Str)(ss:List Stm)(a b r:Addr)(ys:List V)(g:List Addr)(us:List Int)(ns:List Str),ProgAt K C H p wd ins oth ss a b r ys g/\bF ss<d/\3 * aS ss<300/\cX ns wd ss/\SqT K H u (us.map V.int)/\us.length=3/\(∀x∈us,0<x/\x<=3)/\
 ∀tb xs bbs H',Same H H'->H tb=none->H' tb=some (.lst xs)->Paired (ff us) (FZ.b7 ss) bbs->Paired (BlkV K (fun c=>H c=none) H' tb) xs (gK (FZ.b7 ss) bbs)->Q (.ref tb) H'
def qj(K:W.Frag)(C:Addr)(d:Nat):Sp:=fun vs H Q _=>∃p u:Addr,vs=[.ref p,.ref u]/\oi K C d p u H Q
theorem D6{C p u:Addr}{d:Nat}{Q:VK}{E:XK}:qj K C d [.ref p,.ref u] H Q E=oi K C d p u H Q:=propext ⟨by rintro ⟨_,_,e,q⟩;cases e;exact q,fun q=>zAD _ _ rfl q⟩
theorem BtsV.mv{N N':Addr->Prop}{H':Hp}{c:Addr}{bs:List (List FB.Deed)}(h:BtsV K N H c bs)(s:Same H H')(hn:∀p,N p->N' p):BtsV K N' H' c bs:=
 let ⟨ps,e,r⟩:=h;(zn ps (s _ _ e) (FL.Paired.imp r fun p _ l _ ⟨z1,vs,z2,z3⟩=>⟨hn p z1,zn vs (s _ _ z2) (FL.Paired.imp z3 fun _ _ _ _ z=>z.ts s.ts)⟩))
theorem BtsV.updL{N:Addr->Prop}{c l:Addr}{bs:List (List FB.Deed)}{us vs:List V}(h:BtsV K N H c bs)(hl:H l=some (.lst us))(hc:c≠l)(hn:∀p,N p->p≠l):BtsV K N (upd H l (.lst vs)) c bs:=
 let ⟨ps,e,r⟩:=h;(zn ps (by rw [ao hc];exact e) (FL.Paired.imp r fun p _ l _ ⟨z1,vs,z2,z3⟩=>⟨z1,zn vs (by rw [ao (hn p z1)];exact z2) (FL.Paired.imp z3 fun _ _ _ _ z=>z.ts (TSame.updL hl))⟩))
theorem AD{N:Addr->Prop}{H:Hp}{tb q a e:Addr}{xs vs:List V}{T:List FZ.Blk}{l:List FB.Deed}{ed:FZ.Ed}(ht:H tb=some (.lst xs))(hx:Paired (BlkV K N H tb) xs T)(hq:H q=some (.tup [.ref a,.ref e]))(ha:H a=some (.lst vs))(hv:Paired (DeedV1 K H) vs l)(he:H e=some (.tup (dC ed)))(hn:a≠tb)(hN:N a):
  Paired (BlkV K N (upd H tb (.lst (xs++[.ref q]))) tb) (xs++[.ref q]) (T++[⟨l,ed⟩]):=
 FL.Paired.snoc (BlkV.sx (b:=⟨l,ed⟩) ⟨q,a,e,vs,rfl,hq,ha,hv,he,hn,hN⟩ SameX.upd ht) (FL.Paired.imp hx fun y _ c _ h=>h.sx SameX.upd ht)
theorem wz{F:Addr->List FB.Deed->Prop}{ps:List Addr}{bs:List (List FB.Deed)}(h:Paired F ps bs)(hn:bs≠[]):∃p,atI (ps.map V.ref) (-1)=some (.ref p)/\F p (gU bs):=by
 have lr:=h.length;rcases EY ps with z | ⟨rl,pl,z⟩
 ·rw [z] at lr;exact absurd (zq54.mp lr.symm) hn
 have hpl:ps[rl.length]?=some pl:=by rw [z,xC,iy (zq5 _),rg];rfl
 obtain ⟨l,hl,hf⟩:=Paired.get h hpl;have el:gU bs=l:=by unfold gU;rw [Bn,EZ,<- lr,z,xC,zq7,bV,Bq,hl];rfl
 rw [el];exact zn pl (by rw [z,xC,cg];exact fk _ _) hf
theorem pz{us:List Int}{b:FZ.Blk}{bs:List (List FB.Deed)}(h8:b.ds.length<=8)(h:ff us b bs):bs.length<=9:=by
 obtain ⟨bss,hg,rfl⟩:=h;have z:=oU hg;rw [eg] at z;have lbd:(aU b.ds bss).length=bss.length:=by unfold aU;rw [zq3]
 unfold eC
 split
 ·rw [zq7,bV];omega
 ·omega
theorem mm{bbs:List (List (List FB.Deed))}(h:∀bs∈bbs,bs.length<=9):eK bbs<=9 * bbs.length:=by
 induction bbs with
 |nil=>exact cq _
 |cons b l ih=>have h1:=ih fun c hc=>h c (zq9 _ hc);have h2:=h b Jll;unfold eK at h1 ⊢;rw [ce,tG,cW];omega
theorem yZ(T:Txt K mg t)(hw:t.pr=w.params)(d:Nat):FnOk P w K mg base CX0 (3 * d+16) t.f_137 t.e_137 ["program","units"] (qj K t.C_Program d):=by
 have G_114:=@wH P w K mg base t T d;have G_138:=@yL P w K mg base t T hw;have G_102:=@FC P w K mg base t T;refine T.d_137.F.ok sc_137 ∅ ?_;rintro cdv A outer s H vs Q E hr ⟨p,u,rfl,wd,ins,oth,ss,a,b,r,ys,g,us,ns,hP,hd,hm,hgd,hU,h3,hp3,qk⟩;have hu:=fi hr;refine ⟨_,
   (XSs.h
   (ai
    (aq (i:=2) sc_137.nd rfl ll (au T.d_114 G_114 hr.m (aa (yqv 0 vl) ae) gl))
   (ai
    (ez (i:=4) sc_137.nd rfl ll rfl Jkl (tns:=["block"]) (cns:=["units"]) (ci:=[1]) rfl (CompSc.of Jkl) (aY (yqv 2 vl)) (fun _=>(aA (i:=1) (show List.Nodup [(".0":Str),("block":Str),("units":Str)] by decide +kernel) rfl ll (Or.inr Jkl))) (fun _=>bY) (fun _=>(au T.d_138 G_138 hr.m (aa (yqv 1 vl) (aa (yqv 2 vc) ae)) gl)))
   (ai
    (aq (i:=5) sc_137.nd rfl ll (aJ ae))
   (ai
    (aq (i:=6) sc_137.nd rfl ll aj)
   (c9
    (br PassesOwn.never rfl (aY (yqv 4 vl)) (aA (i:=7) sc_137.nd rfl ll)
     (ai
      (aR (c7 PySem.F.plainAttrs_list PySem.F.slot_list_append PySem.F.type_list_append aZ (yqv 5 vl) (aa (yqv 6 vl) ae)))
     (ak
      (aq (i:=6) sc_137.nd rfl ll (av bu (yqv 6 vl) (aL aM gl T.z_len PySem.boot_len (aa (yqv 7 vl) ae)))))))
   (ai
    (aq (i:=8) sc_137.nd rfl ll (aJ ae))
   (ai
    (br PassesOwn.never rfl (vy T.z_zip (aa (yqv 2 vl) (aa (yqv 4 vl) ae)) gl) (eo rfl (aV (aA (i:=3) sc_137.nd rfl ll) (aV (aA (i:=7) sc_137.nd rfl ll) dk)))
     (c9
      (br PassesOwn.never rfl (aY (dO jx (yqv 7 vl) io (dm (iT gc aj)))) (aA (i:=9) sc_137.nd rfl ll)
       (ak
        (aR (c7 PySem.F.plainAttrs_list PySem.F.slot_list_append PySem.F.type_list_append aZ (yqv 8 vl) (aa (aG (aa (yqv 9 vl) (aa (aG (aa aC (aa (av bu (aL aM gl T.z_len PySem.boot_len (aa (yqv 8 vl) ae)) aj) ae))) ae))) ae)))))
     (ak
      (aR (c7 PySem.F.plainAttrs_list PySem.F.slot_list_append PySem.F.type_list_append aZ (yqv 8 vl) (aa (aG (aa (ap aN (yqv 7 vl) (iT gc aj)) (aa (au T.d_102 G_102 hr.m (aa (ap ay (yqv 3 vl) aj) (aa (yqv 5 vl) ae)) gl) ae))) ae))))))
   (ak
    (aw (yqv 8 vl))))))))))),?_⟩
 rw [show aO _ [V.ref p,V.ref u]=[some (.ref p),some (.ref u),none,none,none,none,none,none,none,none] from rfl];simp_arith! [zH];refine zBC wd ins oth ss a b r ys g (zAF hP hd Jlk fun bl bs H1 s1 hbl0 hbl hbs=>?_);have hG:=FZ.jD hgd;have lB:=FZ.gN ss;obtain ⟨B,hB⟩:∃B,B=FZ.b7 ss:=⟨_,rfl⟩
 rw [<- hB] at hG lB hbs qk;have lb:=hbs.length;refine later ?_;simp_arith! [uM];refine ⟨⟨_,SqL.of hbl⟩,fun acc hacc bk=>?_⟩;have up:=nG h3 hp3;refine d6 (xs:=bs) (fun i ys H'=>Same H1 H'/\H' acc=some (.lst ys)/\∃(rs:List Addr)(bbs:List (List (List FB.Deed))),ys=rs.map V.ref/\Paired (ff us) (B.take i) bbs/\Paired (fun r bs=>H1 r=none/\r≠acc/\BtsV K (fun p=>H1 p=none/\p≠acc) H' r bs) rs bbs) (zAB (Same.upd hacc) ac (zAA ([]) ([]) rfl .nil .nil)) (fun i ys H' _ h=>SqL.of (h.1 _ _ hbl)) ?_ ?_
 ·rintro i x ys H2 os hi ho ⟨s2,ha2,rs,bbs,rfl,hL,hR⟩;obtain ⟨b0,hb0,hbv⟩:=Paired.get hbs hi;have hb8:=(hG b0 (bD hb0)).len;obtain ⟨qb,ab,eb,vs,rfl,v1,v2,v3,v4,v5,v6⟩:=hbv.same s2;refine BQ ho ?_;rwa [uM];refine zAD b0 us ⟨zAO ab eb vs v1 v2 v3 v4,hb8,(s1.trans s2).seqT hU,h3,hp3⟩ fun c bs0 H3 s3 hc hl hv=>?_;have e3:=s3 _ _ ha2;have nc:c≠acc:=(am ha2 hc).symm;have lr:=hR.length;have lL:=hL.length;rw [dw] at lL;refine zAI e3 (by rw [zq3,zq8];omega) ((s2.trans s3).updM hacc) ac (zAA (rs++[c]) (bbs++[bs0]) (by rw [cg];rfl) ?_ ?_)
  ·obtain ⟨h1,h2⟩:=zq11.mp hb0;rw [dy h1,h2];exact FL.Paired.snoc hl hL
  ·refine FL.Paired.snoc ⟨s2.free hc,nc,?_⟩ (FL.Paired.imp hR fun r0 _ l _ ⟨z1,z2,z3⟩=>zAB z1 z2 ((z3.mv s3 fun _ z=>z).updL e3 z2 fun _ z=>z.2));exact (hv.mv (Same.refl _) fun p0 z=>⟨s2.free z,(am ha2 z).symm⟩).updL e3 nc fun _ z=>z.2
 ·rintro ys H2 ⟨s2,ha2,rs,bbs,rfl,hL,hR⟩;rw [rf Jlk] at hL;have lr:=hR.length;have lL:=hL.length;have hne:∀bs∈bbs,bs≠[]/\bs.length<=9:=fun bs hbs=>by obtain ⟨i,hi⟩:=zq76.mp hbs;obtain ⟨b0,hb0,hl⟩:=Paired.getR hL hi;have h8:=(hG b0 (bD hb0)).len;exact ⟨(dR (fun s hs=>Br (up s hs)) h8 hl).1,pz h8 hl⟩
  have hR2:Paired (fun r bs=>H1 r=none/\BtsV K (fun p=>H1 p=none) H2 r bs) rs bbs:=FL.Paired.imp hR fun r0 _ l _ ⟨z1,_,z3⟩=>⟨z1,z3.mv (Same.refl _) fun _ z=>z.1⟩
  have hsum:=mm fun bs hbs=>(hne bs hbs).2;have hacc0:=hacc;clear hR hacc bk;refine later ?_;simp_arith! [];intro fl hfl;refine later ?_;simp_arith! [];refine later ?_;simp_arith! [];have t1:=Same.upd (o:=.lst []) hfl;refine ⟨fun σ H'=>Same H2 H'/\H' fl=some (.lst (nl (bR bbs)))/\∃o6 o7,σ=[some (V.ref p),some (V.ref u),some (V.ref bl),none,some (V.ref acc),some (V.ref fl),o6,o7,none,none],?_,?_⟩
  ·refine ⟨⟨_,SqL.of (t1 _ _ ha2)⟩,?_⟩;refine dD (xs:=rs.map V.ref) (fun i σ H'=>Same H2 H'/\H' fl=some (.lst (nl ((bR bbs).take i)))/\∃o7,σ=[some (V.ref p),some (V.ref u),some (V.ref bl),none,some (V.ref acc),some (V.ref fl),some (V.int (eK (bbs.take i))),o7,none,none])
    (zAB t1 ac ⟨_,rfl⟩) (fun i σ H' _ h=>SqL.of (h.1 _ _ ha2)) ?_ ?_
   ·rintro i x σ H3 hx ⟨s3,e3,o7,rfl⟩;rw [bE] at hx;obtain ⟨r0,hr0,rfl⟩:=zq42.mp hx;obtain ⟨bs0,hbs0,z1,ps,hps,hpp⟩:=Paired.get hR2 hr0;have hi:=(zq11.mp hbs0).1;have lp:=hpp.length;have lf:(bR bbs).length=bbs.length:=by unfold bR;rw [zq3,eg]
    have ltk:=eZ (ps:=(bR bbs).take i);rw [dw] at ltk;rwa [];have nr:r0≠fl:=am hps hfl;refine ⟨.inl ⟨rfl,_,SqL.of e3⟩,zAC _ e3 (by rw [ltk,zq8];omega) (zAG (ps.map V.ref) (.inl (SqL.of (by rw [ao nr];exact s3 _ _ hps))) (s3.updM hfl) ?_ ⟨some (V.ref r0),?_⟩)⟩
    ·have hf:(bR bbs)[i]?=some (eK (bbs.take i)):=by unfold bR;rw [bE,qT hi];rfl
     obtain ⟨h1,h2⟩:=zq11.mp hf;rw [ac,dy h1,h2];unfold nl;rw [cg];rfl
    ·rw [eL hbs0,zq3,lp,Int.natCast_add]
   ·rintro σ H3 ⟨s3,e3,o7,rfl⟩;rw [zq3,lr,rf (by unfold bR;rw [zq3,eg];exact zq5 _)] at e3;exact zAB s3 e3 (zAH _ _ rfl)
  rintro σ H3 ⟨s3,e3,o6,o7,rfl⟩;refine later ?_;simp_arith! [];intro tb htb;refine later ?_;simp_arith! [uS];have t4:=Same.upd (o:=.lst []) htb;have hS3:=s2.trans s3;have lB1:B.length=bbs.length:=lL;refine zAE bl acc rfl ⟨_,SqL.of (t4 _ _ (hS3 _ _ hbl))⟩ ⟨_,SqL.of (t4 _ _ (s3 _ _ ha2))⟩ ?_;refine yo (xs:=bs) (ys:=rs.map V.ref) (by rw [zq3];omega) (fun i σ H'=>Same H3 H'/\(∃xs,H' tb=some (.lst xs)/\Paired (BlkV K (fun c=>H c=none) H' tb) xs (iP B bbs i))/\∃o3 o7 o9,σ=[some (V.ref p),some (V.ref u),some (V.ref bl),o3,some (V.ref acc),some (V.ref fl),o6,o7,some (V.ref tb),o9])
   (zAB t4 (zn ([]) ac .nil) (zAJ _ _ _ rfl)) (fun i σ H' _ h=>⟨SqL.of (h.1 _ _ (hS3 _ _ hbl)),SqL.of (h.1 _ _ (s3 _ _ ha2))⟩) ?_ ?_
  ·rintro i x y σ H5 pp hx hy hpp ⟨s5,⟨xs,e5,hxs⟩,o3,o7,o9,rfl⟩;rw [bE] at hy;obtain ⟨r0,hr0,rfl⟩:=zq42.mp hy;obtain ⟨bs0,hbs0,z1,ps,hps,hpp0⟩:=Paired.get hR2 hr0;obtain ⟨b0,hb0,hbv⟩:=Paired.get hbs hx;obtain ⟨qb,ab,eb,vs,rfl,v1,v2,v3,v4,v5,v6⟩:=hbv.same hS3;have lp:=hpp0.length;have hn0:=(hne bs0 (bD hbs0)).1;have hlen:=fG lB1 (fun bs hbs=>(hne bs hbs).1) i (by have:=(zq11.mp hbs0).1;omega);have hsle:=jy (bbs:=bbs) (i+1);rw [eL hbs0] at hsle;simp_arith! [];refine zAC _ (SqT.of ac) rfl ?_;have t6:=Same.upd (o:=.tup [.ref qb,.ref r0]) hpp;have s6:=s5.trans t6;have e6:=t6 _ _ e5;have hx6:=FL.Paired.imp hxs fun y _ c _ h=>h.same t6;clear hxs hpp e5;generalize upd H5 pp (.tup [.ref qb,.ref r0])=H6 at t6 s6 e6 hx6 ⊢;simp_arith! [uS];refine ⟨fun σ H'=>Same H3 H'/\(∃xs,H' tb=some (.lst xs)/\Paired (BlkV K (fun c=>H c=none) H' tb) xs (iP B bbs i++bs0.dropLast.mapIdx fun j d=>⟨d,.go ((iP B bbs i).length+j+1)⟩))/\∃o9,σ=[some (V.ref p),some (V.ref u),some (V.ref bl),some (V.ref qb),some (V.ref acc),some (V.ref fl),o6,some (V.ref r0),some (V.ref tb),o9],?_,?_⟩
   ·refine zn _ (SqL.of (s6 _ _ (s3 _ _ hps))) fun sl hsl=>?_;rw [vY];have t7:=Same.upd (o:=.lst (ps.map V.ref).dropLast) hsl;have s7:=s6.trans t7;have e7:=t7 _ _ e6;have esl:upd H6 sl (.lst (ps.map V.ref).dropLast) sl=some (.lst (ps.map V.ref).dropLast):=ac;have hx7:=FL.Paired.imp hx6 fun y _ c _ h=>h.same t7;have nsl:sl≠tb:=(am e6 hsl).symm;generalize upd H6 sl (.lst (ps.map V.ref).dropLast)=H7 at t7 s7 e7 esl hx7 ⊢;refine ⟨⟨_,SqL.of esl⟩,?_⟩;refine dD (xs:=(ps.map V.ref).dropLast) (fun j σ H'=>SameX tb H7 H'/\(∃xs,H' tb=some (.lst xs)/\Paired (BlkV K (fun c=>H c=none) H' tb) xs (iP B bbs i++(bs0.dropLast.take j).mapIdx fun j d=>⟨d,.go ((iP B bbs i).length+j+1)⟩))/\∃o9,σ=[some (V.ref p),some (V.ref u),some (V.ref bl),some (V.ref qb),some (V.ref acc),some (V.ref fl),o6,some (V.ref r0),some (V.ref tb),o9])
     (zAB SameX.refl (zn _ e7 (by simpa using hx7)) ⟨_,rfl⟩) (fun j σ H' _ h=>SqL.of (h.1 _ _ esl nsl)) ?_ ?_
    ·rintro j x σ H8 hxj ⟨sx8,⟨xs8,e8,hx8⟩,o9',rfl⟩;rwa [];have hjl:j<ps.length-1:=by have:=(zq11.mp hxj).1;rwa [nN,zq3] at this
     obtain ⟨pj,hpj⟩:∃pj,ps[j]?=some pj:=⟨_,zq6 Jlk⟩
     rw [F0,zq1 (by rw [zq3];exact hjl),bE,hpj] at hxj
     cases hxj
     obtain ⟨l,hl,hN,vl,hvl,hdl⟩:=Paired.get hpp0 hpj;have hld:bs0.dropLast[j]?=some l:=by rw [F0,zq1 Jlk];exact hl
     have lx8:=hx8.length;rw [zq7,Bo,dw,nN] at lx8;have s38:Same H3 H8:=fun c o e=>sx8 c o (s7 c o e) (am e htb);refine ⟨.inl ⟨rfl,_,SqL.of e8⟩,zn _ (.inl (SqL.of e8)) fun p1 hp1 p2 hp2=>?_⟩;have t9:=Same.upd (o:=.tup [V.str (Str.ofString "go"),V.int ((xs8.length:Int)+1)]) hp1;have t10:=Same.upd (o:=.tup [V.ref pj,V.ref p1]) hp2;have s10:=t9.trans t10;have e1:=t10 _ _ (ac (H:=H8) (a:=p1) (o:=.tup [V.str (Str.ofString "go"),V.int ((xs8.length:Int)+1)]));have s310:=s38.trans s10;refine zAS xs8 (s10 _ _ e8) (by rw [zq8];omega) ((sx8.trans (SameX.of s10)).trans SameX.upd) (zn _ ac ?_) ⟨_,rfl⟩;rw [qC hld,<- xx];refine AD (s10 _ _ e8) (FL.Paired.imp hx8 fun y _ c _ h=>h.same s10) ac (s310 _ _ (s3 _ _ hvl)) (FL.Paired.imp hdl fun _ _ _ _ z=>z.ts (s3.trans s310).ts) (e:=p1) ?_ (am (s3 _ _ hvl) htb) (s1.free hN);rw [e1,lx8,xw Jlk];rfl
    ·rintro σ H8 ⟨sx8,⟨xs8,e8,hx8⟩,o9',rfl⟩;refine zAB (fun c o e=>sx8 c o (s7 c o e) (am e htb)) (zn xs8 e8 ?_) ⟨_,rfl⟩;rw [rf (by rw [nN,nN,zq3];omega)] at hx8;exact hx8
   ·rintro σ H8 ⟨s8,⟨xs8,e8,hx8⟩,o9',rfl⟩;refine later ?_;rwa [uS];obtain ⟨pl,hat,hN,vl,hvl,hdl⟩:=wz hpp0 hn0;have lx8:=hx8.length;rw [zq7,Bo,nN] at lx8;have lb0:=zq56.mpr hn0;refine ⟨.inl ⟨rfl,_,SqL.of e8⟩,zAA _ _ (SqL.of (s8 _ _ (s3 _ _ hps))) hat (zAA _ _ (SqT.of (s8 _ _ v1)) rfl ?_)⟩;rw [uS];refine zAE b0.ed (bR bbs) (s8 _ _ v4) (SqL.of (s8 _ _ e3)) (fun k hk=>?_) fun e' H9 s9 he' p1 hp1=>?_
    ·have:=(hG b0 (bD hb0)).tg k hk;unfold bR;rw [zq3,eg];omega
    have t10:=Same.upd (o:=.tup [.ref pl,.ref e']) hp1;have s10:=s9.trans t10;have s310:=s8.trans s10;refine zAS xs8 (s10 _ _ e8) (by rw [zq8];omega) (s310.updM htb) (zn _ ac ?_) (zAJ _ _ _ rfl);rw [fX hb0 hbs0,rm,je,<- xx];exact AD (s10 _ _ e8) (FL.Paired.imp hx8 fun y _ c _ h=>h.same s10) ac (s310 _ _ (s3 _ _ hvl)) (FL.Paired.imp hdl fun _ _ _ _ z=>z.ts (s3.trans s310).ts) (t10 _ _ he') (am (s3 _ _ hvl) htb) (s1.free hN)
  ·rintro σ H5 ⟨s5,⟨xs,e5,hxs⟩,o3,o7,o9,rfl⟩;refine later ?_;rwa [];rw [lb,fF lB1] at hxs;exact qk tb xs bbs H5 ((s1.trans hS3).trans s5) ((s1.trans hS3).free htb) e5 hL hxs
variable {H:Hp}
def StV(K:W.Frag)(H:Hp)(x:V)(b:FZ.Blk):Prop:=∃q a e vs,x=.ref q/\SqT K H q [.ref a,.ref e]/\H a=some (.lst vs)/\Paired (DeedV1 K H) vs b.ds/\SqT K H e (dC b.ed)
theorem StV.same{K:W.Frag}{H':Hp}{x:V}{b:FZ.Blk}(h:StV K H x b)(s:Same H H'):StV K H' x b:=by obtain ⟨q,a,e,vs,ex,h1,h2,h3,h4⟩:=h;exact zAM q a e vs ex (s.seqT h1) (s _ _ h2) (FL.Paired.imp h3 fun y _ d _ ⟨q,e,z,f⟩=>zAC q e (s.seqT z) f) (s.seqT h4)
def TabV(K:W.Frag)(H:Hp)(tb:Addr)(F:List FZ.Blk):Prop:=∃xs,H tb=some (.lst xs)/\Paired (StV K H) xs F
theorem TabV.same{K:W.Frag}{H':Hp}{tb:Addr}{F:List FZ.Blk}(h:TabV K H tb F)(s:Same H H'):TabV K H' tb F:=by obtain ⟨xs,h1,h2⟩:=h;exact zn xs (s _ _ h1) (FL.Paired.imp h2 fun y _ d _ z=>z.same s)
theorem TabV.at{K:W.Frag}{tb:Addr}{F:List FZ.Blk}(h:TabV K H tb F){i:Nat}{b:FZ.Blk}(hb:F[i]?=some b):∃xs x,H tb=some (.lst xs)/\xs[i]?=some x/\StV K H x b:=by obtain ⟨xs,h1,h2⟩:=h;obtain ⟨x,hx,hv⟩:=Paired.getR h2 hb;exact zAA xs x h1 hx hv
def k9(b:Bx)(e:FZ.Ed):V:=match GA.nxt b e with
 |none=>.non
 |some j=>.int j
def tP(K:W.Frag)(e bx:Addr)(H:Hp)(Q:VK):Prop:=∃(ed:FZ.Ed)(b:Bx)(ns:List Str)(w:Int),SqT K H e (dC ed)/\H bx=some (.dK b)/\BxG ns w b/\(∀n i j,ed=.choose n i j->n∈ns)/\Q (k9 b ed) H
def vi(K:W.Frag):Sp:=fun vs H Q _=>∃e bx:Addr,vs=[.ref e,.ref bx]/\tP K e bx H Q
theorem zQ{e bx:Addr}{Q:VK}{E:XK}:vi K [.ref e,.ref bx] H Q E=tP K e bx H Q:=propext ⟨by rintro ⟨_,_,e,q⟩;cases e;exact q,fun q=>zAD _ _ rfl q⟩
theorem Cs(T:Txt K mg t):FnOk P w K mg base CX0 1 t.f_101 t.e_101 ["ending","boxes"] (vi K):=by
 refine T.d_101.F.ok Hr ∅ ?_;rintro cdv A outer s H vs Q E hr ⟨e,bx,rfl,ed,b,ns,w,hq,hb,hG,hn,q⟩;have hu:=fi hr;refine ⟨_,
   (XSs.h
   (ai
    (aH (ar aT (ap ay (yqv 0 vl) aj) aC (az _))
     (ak
      (aw (ap ay (yqv 0 vl) aj)))
     aD)
   (ai
    (aH (ar aT (ap ay (yqv 0 vl) aj) aC (az _))
     (ak
      (aw (cD (ar Dx (cT hu (yqv 1 vl) (ap ay (yqv 0 vl) aj) (fun _ _=>rfl)) aj (az _)) (ap ay (yqv 0 vl) aj) (ap ay (yqv 0 vl) aj))))
     aD)
   (ak
    (aw cx))))),?_⟩
 rw [show aO _ [V.ref e,V.ref bx]=[some (.ref e),some (.ref bx)] from rfl];rwa []
 cases ed with
 |stop=>
  refine zAA _ _ hq rfl ?_;rwa [];refine aB (fun z=>absurd z Jkk) (fun _=>zAE _ _ hq rfl rfl (zn _ rfl ?_));refine aB (fun z=>absurd z Jkk) (fun _=>q)
 |go i=>
  refine zAA _ _ hq rfl ?_;rwa [];exact aB (fun _=>zAA _ _ hq rfl q) (fun z=>absurd trivial z)
 |choose n i j=>
  refine zAA _ _ hq rfl ?_;rwa [];refine aB (fun z=>absurd z Jkk) (fun _=>zAE _ _ hq rfl rfl (zn _ rfl ?_));refine aB (fun _=>zAA _ _ hq rfl (zAA bx _ rfl (.inl (zAA b (.inr n) (.inl hb) rfl (hG.val (hn n i j rfl)).symm)) ?_)) (fun z=>absurd rfl z);have e:k9 b (.choose n i j)=if b8 b n≠0 then V.int i else .int j:=by
   unfold k9 GA.nxt;dsimp only
   by_cases h:b8 b n=0
   ·rw [zq0 (fun z=>z h),zq0 (fun z=>z h)]
   ·rw [zq1 h,zq1 h]
  rw [e] at q;rwa [];refine pd (fun h=>?_) (fun h=>?_)
  ·rw [zq1 h] at q;exact zAA _ _ hq rfl q
  ·rw [zq0 (fun z=>z h)] at q;exact zAA _ _ hq rfl q
variable {H:Hp} {p:Addr}
theorem pS{f:Str}{v:V}:∀fs:List (Str×V),(cU f v fs).length<=fs.length+1
 | []=>zq5 _
 | (g,x)::r=>by
  rw [cU]
  split
  ·exact Bu _
  ·rw [cW,cW];have:=pS (f:=f) (v:=v) r;omega
def sQ(wd:Int)(tb bx td:Addr)(pl:V):List (Str×V):=[("width",.int wd),("table",.ref tb),("boxes",.ref bx),("told",.ref td),("place",pl)]
structure TRunH(C:Addr)(H0 H:Hp)(p tb bx td:Addr)(wd:Int)(pl:V)(s:GA.BT):Prop where
 same:Same H0 H
 ob:∃dx,H p=some (.ins C dx (sQ wd tb bx td pl))
 bxs:H bx=some (.dK s.1)
 tds:H td=some (.lst (s.2.map V.int))
 fr:H0 p=none/\H0 bx=none/\H0 td=none
theorem TRunH.mv{C tb bx td:Addr}{H0 H':Hp}{wd:Int}{pl:V}{s:GA.BT}(h:TRunH C H0 H p tb bx td wd pl s)(sm:Same H H'):TRunH C H0 H' p tb bx td wd pl s:=
 ⟨h.same.trans sm,let ⟨dx,e⟩:=h.ob;⟨dx,sm _ _ e⟩,sm _ _ h.bxs,sm _ _ h.tds,h.fr⟩
def oj(K:W.Frag)(C CP:Addr)(p pp tb c:Addr)(H:Hp)(Q:VK):Prop:=∃(H0:Hp)(dx:Addr)(wd:Int)(ins oth:List Str)(ss:List Stm)(a b r:Addr)(xs:List V)(f:List Addr)(ws:Bx),Same H0 H/\H0 p=none/\H p=some (.ins C dx [])/\ProgAt K CP H0 pp wd ins oth ss a b r xs f/\WordsIn H0 c ws ins wd/\(ins++oth).length<=1000/\
 ∀bx td H',TRunH C H0 H' p tb bx td wd (.int 0) (bj ins ws (ins++oth),[])->Q .non H'
def ql(K:W.Frag)(C CP:Addr):Sp:=fun vs H Q _=>∃(p pp tb c:Addr),vs=[.ref p,.ref pp,.ref tb,.ref c]/\oj K C CP p pp tb c H Q
structure StG(ns:List Str)(wd:Int)(b:FZ.Blk):Prop where
 gd:∀d∈b.ds,Deed.good ns wd d
 nm:∀n i j,b.ed=.choose n i j->n∈ns
 len:b.ds.length<=60
def kZ(K:W.Frag)(C:Addr)(p:Addr)(H:Hp)(Q:VK):Prop:=∃(H0:Hp)(tb bx td:Addr)(wd:Int)(i:Nat)(s:GA.BT)(F:List FZ.Blk)(b:FZ.Blk)(ns:List Str),TRunH C H0 H p tb bx td wd (.int i) s/\TabV K H0 tb F/\F[i]?=some b/\StG ns wd b/\BxG ns wd s.1/\1<=wd/\wd<=8/\s.2.length<=1000000/\
 ∀bx' H',TRunH C H0 H' p tb bx' td wd (k9 s.1 b.ed) (GO.beat wd s.1 b.ds s)->Q .non H'
def mh(K:W.Frag)(C:Addr):Sp:=fun vs H Q _=>∃(p:Addr),vs=[.ref p]/\kZ K C p H Q
theorem uV{C CP pp tb c:Addr}{Q:VK}{E:XK}:ql K C CP [.ref p,.ref pp,.ref tb,.ref c] H Q E=oj K C CP p pp tb c H Q:=propext ⟨by rintro ⟨_,_,_,_,e,q⟩;cases e;exact q,fun q=>zAP _ _ _ _ rfl q⟩
theorem kl{C:Addr}{Q:VK}{E:XK}:mh K C [.ref p] H Q E=kZ K C p H Q:=propext ⟨by rintro ⟨_,e,q⟩;cases e;exact q,fun q=>zn _ rfl q⟩
theorem z6(T:Txt K mg t):FnOk P w K mg base CX0 2 t.f_140 t.e_140 ["self","program","table","words"] (ql K t.C_TableRun t.C_Program):=by
 have G_136:=@yM P w K mg base t T;refine T.d_140.F.ok HK ∅ ?_;rintro cdv A outer s H vs Q E hr ⟨p,pp,tb,c,rfl,H0,dx,wd,ins,oth,ss,a,b,r,xs,f,ws,s0,hp0,hp,hP,hW,hl,q⟩;refine ⟨_,
   (XSs.h
   (ai
    (cn (yqv 0 vl) (b9 (yqv 1 vl) rfl) rfl)
   (ai
    (cn (yqv 0 vl) (yqv 2 vl) rfl)
   (ai
    (cn (yqv 0 vl) (au T.d_136 G_136 hr.m (aa (yqv 1 vl) (aa (yqv 3 vl) ae)) gl) rfl)
   (ai
    (cn (yqv 0 vl) (aJ ae) rfl)
   (ak
    (cn (yqv 0 vl) aj rfl))))))),?_⟩
 rw [show aO _ [V.ref p,V.ref pp,V.ref tb,V.ref c]=[some (.ref p),some (.ref pp),some (.ref tb),some (.ref c)] from rfl];simp_arith! [uP];obtain ⟨dxp,hob⟩:=hP.ob;refine df (s0 _ _ hob) T.c_Program.cl T.n_Program_width rfl (gD hp T.c_TableRun.cl T.n_TableRun_width Jll ?_);rw [cz Jlm,xA];have s1:=s0.updM (o:=.ins t.C_TableRun dx [("width",V.int wd)]) hp0;have e1:upd H p (.ins t.C_TableRun dx [("width",V.int wd)]) p=some (.ins t.C_TableRun dx [("width",V.int wd)]):=ac;generalize upd H p (.ins t.C_TableRun dx [("width",V.int wd)])=H1 at s1 e1 ⊢;refine later ?_;simp_arith! [];refine gD e1 T.c_TableRun.cl T.n_TableRun_table Jll ?_;rw [cz Jkl];have s2:=s1.updM (o:=.ins t.C_TableRun dx ([(("width":Str),V.int wd)]++[(("table":Str),V.ref tb)])) hp0;have e2:upd H1 p (.ins t.C_TableRun dx ([(("width":Str),V.int wd)]++[(("table":Str),V.ref tb)])) p=some (.ins t.C_TableRun dx ([(("width":Str),V.int wd)]++[(("table":Str),V.ref tb)])):=ac;generalize upd H1 p (.ins t.C_TableRun dx ([(("width":Str),V.int wd)]++[(("table":Str),V.ref tb)]))=H2 at s2 e2 ⊢;refine later ?_;simp_arith! [uP];refine zBJ wd ins oth ss a b r xs f ws (zAF (hP.same s2) (hW.same s2) hl fun bx H4 s4 hbx gb=>?_);refine gD (s4 _ _ e2) T.c_TableRun.cl T.n_TableRun_boxes Jll ?_;rw [cz Jkl];have nbx:bx≠p:=(am e2 hbx).symm;have fb:=s2.free hbx;have s5:=(s2.trans s4).updM (o:=.ins t.C_TableRun dx ([(("width":Str),V.int wd)]++[(("table":Str),V.ref tb)]++[(("boxes":Str),V.ref bx)])) hp0;have e5:upd H4 p (.ins t.C_TableRun dx ([(("width":Str),V.int wd)]++[(("table":Str),V.ref tb)]++[(("boxes":Str),V.ref bx)])) p=some (.ins t.C_TableRun dx ([(("width":Str),V.int wd)]++[(("table":Str),V.ref tb)]++[(("boxes":Str),V.ref bx)])):=ac;have b5:upd H4 p (.ins t.C_TableRun dx ([(("width":Str),V.int wd)]++[(("table":Str),V.ref tb)]++[(("boxes":Str),V.ref bx)])) bx=some (.dK (bj ins ws (ins++oth))):=by rw [ao nbx];exact gb
 generalize upd H4 p (.ins t.C_TableRun dx ([(("width":Str),V.int wd)]++[(("table":Str),V.ref tb)]++[(("boxes":Str),V.ref bx)]))=H5 at s5 e5 b5 ⊢;refine later ?_;simp_arith! [];intro td htd;have ntd:p≠td:=am e5 htd;have ft:=s5.free htd;have s6:=Same.upd (o:=.lst []) htd;refine gD (s6 _ _ e5) T.c_TableRun.cl T.n_TableRun_told Jll ?_;rw [cz Jkl];refine later ?_;rwa [];refine gD ac T.c_TableRun.cl T.n_TableRun_place Jll ?_;rw [cz Jkl];refine q bx td _ ⟨((s5.trans s6).updM hp0).updM hp0,⟨dx,ac⟩,?_,?_,zAB hp0 fb ft⟩
 ·rw [ao nbx,ao nbx];exact s6 _ _ b5
 ·rw [ao ntd.symm,ao ntd.symm];exact ac
theorem wJ(T:Txt K mg t):FnOk P w K mg base CX0 4 t.f_141 t.e_141 ["self"] (mh K t.C_TableRun):=by
 have G_128:=@Cr P w K mg base t T;have G_125:=@gH P w K mg base t T;have G_101:=@Cs P w K mg base t T;refine T.d_141.F.ok sc_141 ∅ ?_;rintro cdv A outer s H vs Q E hr ⟨p,rfl,H0,tb,bx,td,wd,i,st,F,blk,ns,hR,hT,hF,hS,hG,w1,w8,hl,q⟩;have hu:=fi hr;refine ⟨_,
   (XSs.h
   (ai
    (aq (i:=1) sc_141.nd rfl ll (ap aN (b9 (yqv 0 vl) rfl) (b9 (yqv 0 vl) rfl)))
   (ai
    (aq (i:=2) sc_141.nd rfl ll (bA mE gl T.z_dict boot_dict (aa (b9 (yqv 0 vl) rfl) ae)))
   (c9
    (br PassesOwn.never rfl (aY (ap ay (yqv 1 vl) aj)) (aA (i:=3) sc_141.nd rfl ll)
     (ai
      (aq (i:=4) sc_141.nd rfl ll (au T.d_128 G_128 hr.m (aa (yqv 3 vl) (aa (b9 (yqv 0 vl) rfl) (aa (b9 (yqv 0 vl) rfl) ae))) gl))
     (ai
      (aq (i:=5) sc_141.nd rfl ll (au T.d_125 G_125 hr.m (aa (yqv 3 vl) ae) gl))
     (ak
      (aH (ar se (yqv 5 vl) cx (az _))
       (ak
        (aR (c7 PySem.F.plainAttrs_list PySem.F.slot_list_append PySem.F.type_list_append aZ (b9 (yqv 0 vl) rfl) (aa (yqv 4 vl) ae))))
       (ak
        (dq hu (yqv 2 vl) (yqv 5 vl) (yqv 4 vl) rfl)))))))
   (ai
    (cn (yqv 0 vl) (au T.d_101 G_101 hr.m (aa (ap ay (yqv 1 vl) aj) (aa (b9 (yqv 0 vl) rfl) ae)) gl) rfl)
   (ak
    (cn (yqv 0 vl) (yqv 2 vl) rfl))))))),?_⟩
 rw [show aO _ [V.ref p]=[some (.ref p),none,none,none,none,none] from rfl];simp_arith! [];obtain ⟨dx,e⟩:=hR.ob;obtain ⟨xs,x,hxs,hx,qs,da,ea,vs,rfl,v1,v2,v3,v4⟩:=hT.at hF;refine df e T.c_TableRun.cl T.n_TableRun_table rfl (df e T.c_TableRun.cl T.n_TableRun_place rfl ?_);simp_arith! [];refine zAA _ _ (SqL.of (hR.same _ _ hxs)) (bq hx) ?_;refine later ?_;simp_arith! [];refine df e T.c_TableRun.cl T.n_TableRun_boxes rfl (zAA _ _ rfl (.inl hR.bxs) fun af haf=>?_);have t1:=Same.upd (o:=.dK st.1) haf;have naf:bx≠af:=am hR.bxs haf;have npf:p≠af:=am e haf;have ntf:td≠af:=am hR.tds haf;have hR1:=hR.mv t1;have eaf:upd H af (.dK st.1) af=some (.dK st.1):=ac;have faf:=hR.same.free haf;have e1:=t1 _ _ e;generalize upd H af (.dK st.1)=H1 at t1 hR1 eaf e1 ⊢;refine later ?_;simp_arith! [sF,dN];have lv:=v3.length;have hlen:=hS.len;have few:=hG.few;refine ⟨fun σ H'=>Same H0 H'/\H' p=some (.ins t.C_TableRun dx (sQ wd tb bx td (.int i)))/\H' bx=some (.dK st.1)/\H' af=some (.dK (GO.beat wd st.1 blk.ds st).1)/\H' td=some (.lst ((GO.beat wd st.1 blk.ds st).2.map V.int))/\∃o3 o4 o5,σ=[some (.ref p),some (.ref qs),some (.ref af),o3,o4,o5],?_,?_⟩
 ·refine zAA _ _ (hR1.same.seqT v1) rfl (zAC _ rfl ⟨_,SqL.of (hR1.same _ _ v2)⟩ ?_);refine dD (xs:=vs) (fun j σ H'=>Same H0 H'/\H' p=some (.ins t.C_TableRun dx (sQ wd tb bx td (.int i)))/\H' bx=some (.dK st.1)/\BxG ns wd (GO.beat wd st.1 (blk.ds.take j) st).1/\H' af=some (.dK (GO.beat wd st.1 (blk.ds.take j) st).1)/\H' td=some (.lst ((GO.beat wd st.1 (blk.ds.take j) st).2.map V.int))/\∃o3 o4 o5,σ=[some (.ref p),some (.ref qs),some (.ref af),o3,o4,o5])
   (zAW hR1.same e1 hR1.bxs hG eaf hR1.tds (zAJ _ _ _ rfl)) (fun j σ H' _ h=>SqL.of (h.1 _ _ v2)) ?_ ?_
  ·rintro j y σ H2 hy ⟨s2,ep,eb,gb,ef,et,o3,o4,o5,rfl⟩;obtain ⟨d,hd,q0,rfl,hq0,hf⟩:=Paired.get v3 hy;have hgd:=hS.gd d (bD hd);have hl2:=GO.fm (w:=wd) (b0:=st.1) (ds:=blk.ds.take j) (s:=st);have lt:(blk.ds.take j).length<=blk.ds.length:=by rw [dw];exact Nat.min_le_right ..
   have few2:=gb.few;rwa [sF,dN];refine df ep T.c_TableRun.cl T.n_TableRun_boxes rfl (df ep T.c_TableRun.cl T.n_TableRun_width rfl ?_);rw [sF];refine zAJ d st.1 ns (zBM (s2.seqT hq0) eb hG hf hgd w1 w8 fun H3 s3=>?_);have s23:=s2.trans s3;refine zAC d (s23.seqT hq0) hf ?_;rw [GO.iB hd];have gb3:=GO.BxG.atB hG gb hgd w1
   cases d with
   |tell o=>
    refine aB (fun _=>df (s3 _ _ ep) T.c_TableRun.cl T.n_TableRun_told rfl ⟨.inl ⟨rfl,_,SqL.of (s3 _ _ et)⟩,zAL td _ _ rfl rfl (s3 _ _ et) (by rw [zq3,zq8];omega) ?_⟩) (fun z=>absurd rfl z);have npt:p≠td:=bL (s3 _ _ ep) (s3 _ _ et) (by intro z;cases z);have nbt:bx≠td:=bL (s3 _ _ eb) (s3 _ _ et) (by intro z;cases z);refine zAW (s23.updM hR.fr.2.2) (by rw [ao npt];exact s3 _ _ ep) (by rw [ao nbt];exact s3 _ _ eb) gb3 (by rw [ao ntf.symm];exact s3 _ _ ef) ?_ (zAJ _ _ _ rfl);show upd H3 td _ td=some (.lst (List.map V.int ((GO.beat wd st.1 (blk.ds.take j) st).2++[j5 st.1 wd (.tell o)])));rw [ac,cg];rfl
   |copy n o=>
    refine aB (fun z=>absurd z (by intro z;cases z)) (fun _=>zn _ (DPut.k (k:=.inr n) (s3 _ _ ef) (by rw [zq8];omega)) ?_);exact zAW (s23.updM faf) (by rw [ao npf];exact s3 _ _ ep) (by rw [ao naf];exact s3 _ _ eb) gb3 ac (by rw [ao ntf];exact s3 _ _ et) (zAJ _ _ _ rfl)
   |op g n o o2=>refine aB (fun z=>absurd z (by intro z;cases z)) (fun _=>zn _ (DPut.k (k:=.inr n) (s3 _ _ ef) (by rw [zq8];omega)) ?_);exact zAW (s23.updM faf) (by rw [ao npf];exact s3 _ _ ep) (by rw [ao naf];exact s3 _ _ eb) gb3 ac (by rw [ao ntf];exact s3 _ _ et) (zAJ _ _ _ rfl)
  ·rintro σ H2 ⟨s2,ep,eb,gb,ef,et,o3,o4,o5,rfl⟩;rw [lv,dZ] at ef et;exact zAQ s2 ep eb ef et (zAJ _ _ _ rfl)
 rintro σ H2 ⟨s2,ep,eb,ef,et,o3,o4,o5,rfl⟩;refine later ?_;simp_arith! [zQ];refine zAA _ _ (s2.seqT v1) rfl ?_;refine df ep T.c_TableRun.cl T.n_TableRun_boxes rfl ?_;rw [zQ];refine zAM blk.ed st.1 ns wd (s2.seqT v4) eb hG hS.nm ?_;refine gD ep T.c_TableRun.cl T.n_TableRun_place (by simp [sQ]) ?_;refine later ?_;rwa [];refine gD ac T.c_TableRun.cl T.n_TableRun_boxes (qX (pS _) (show 5+1<1000 by decide)) ?_;have npt:p≠td:=bL ep et (by intro z;cases z);have npf2:p≠af:=bL ep ef (by intro z;cases z);refine q af _ ⟨(s2.updM hR.fr.1).updM hR.fr.1,⟨dx,?_⟩,?_,?_,zAB hR.fr.1 faf hR.fr.2.2⟩
 ·rw [ac];have:cU "boxes" (V.ref af) (cU "place" (k9 st.1 blk.ed) (sQ wd tb bx td (.int i)))=sQ wd tb af td (k9 st.1 blk.ed):=by
   unfold sQ
   kernel_rfl
  rw [this]
 ·rw [ao npf2.symm,ao npf2.symm];exact ef
 ·rw [ao npt.symm,ao npt.symm];exact et
variable {b:Bx}
structure vN(ns:List Str)(wd:Int)(F:List FZ.Blk):Prop where
 st:∀b∈F,StG ns wd b
 tg:∀b∈F,∀j∈b.ed.tg,j<F.length
 pos:0<F.length
def l8(K:W.Frag)(C:Addr)(pp tb c:Addr)(m:Int)(H:Hp)(Q:VK):Prop:=∃(wd:Int)(ins oth:List Str)(ss:List Stm)(a b r:Addr)(xs:List V)(f:List Addr)(ws:Bx)(F:List FZ.Blk),ProgAt K C H pp wd ins oth ss a b r xs f/\WordsIn H c ws ins wd/\1<=wd/\wd<=8/\(ins++oth).length<=1000/\TabV K H tb F/\vN (ins++oth) wd F/\m<=2100/\
 ∀p td bx H',Same H H'->H td=none->H bx=none->H' p=some (.tup [.ref td,.ref bx,.bl (GO.fE F wd m.toNat 0 (bj ins ws (ins++oth),[])).2])->H' td=some (.lst ((GO.fE F wd m.toNat 0 (bj ins ws (ins++oth),[])).1.2.map V.int))->H' bx=some (.dK (GO.fE F wd m.toNat 0 (bj ins ws (ins++oth),[])).1.1)->Q (.ref p) H'
def mi(K:W.Frag)(C:Addr):Sp:=fun vs H Q _=>∃(pp tb c:Addr)(m:Int),vs=[.ref pp,.ref tb,.ref c,.int m]/\l8 K C pp tb c m H Q
theorem ud{e:FZ.Ed}{j:Nat}(h:GA.nxt b e=some j):j∈e.tg:=by
 cases e with
 |stop=>cases h
 |go i=>cases h;exact zq10.mpr rfl
 |choose n x y=>
  unfold GA.nxt at h
  cases h
  show (if b8 b n≠0 then x else y)∈[x,y]
  split<;>simp
theorem yJ{e:FZ.Ed}(h:GA.nxt b e=none):k9 b e=.non:=by unfold k9;rw [h]
theorem yH{e:FZ.Ed}{j:Nat}(h:GA.nxt b e=some j):k9 b e=.int j:=by unfold k9;rw [h]
theorem zT{C pp tb c:Addr}{m:Int}{H:Hp}{Q:VK}{E:XK}:mi K C [.ref pp,.ref tb,.ref c,.int m] H Q E=l8 K C pp tb c m H Q:=propext ⟨by rintro ⟨_,_,_,_,e,q⟩;cases e;exact q,fun q=>zAP _ _ _ _ rfl q⟩
theorem wK(T:Txt K mg t):FnOk P w K mg base CX0 6 t.f_142 t.e_142 ["program","table","words","most"] (mi K t.C_Program):=by
 have G_140:=@z6 P w K mg base t T;have G_141:=@wJ P w K mg base t T;refine T.d_142.F.ok sc_142 ∅ ?_;rintro cdv A outer s H vs Q E hr ⟨pp,tb,c,m,rfl,wd,ins,oth,ss,a,b,r,xs,f,ws,F,hP,hW,w1,w8,hl,hT,hF,hm,q⟩;refine ⟨_,
   (XSs.h
   (ai
    (aq (i:=4) sc_142.nd rfl ll (iV T.c_TableRun T.d_140 G_140 hr.m (aa (yqv 0 vl) (aa (yqv 1 vl) (aa (yqv 2 vl) ae))) gl))
   (ai
    (aq (i:=5) sc_142.nd rfl ll aj)
   (ai
    (eN PassesOwn.never (cE (cK (ar eF (yqv 5 vl) (yqv 3 vl) (az _)) (cB (ar gZ (b9 (yqv 4 vl) rfl) cx (az _)))))
     (ai
      (aR (gL T.c_TableRun.cl T.d_141 G_141 hr.m (yqv 4 vl)))
     (ak
      (aq (i:=5) sc_142.nd rfl ll (av bu (yqv 5 vl) aj)))))
   (ak
    (aw (aG (aa (b9 (yqv 4 vl) rfl) (aa (b9 (yqv 4 vl) rfl) (aa (bQ se (b9 (yqv 4 vl) rfl) cx (az _)) ae)))))))))),?_⟩
 rw [show aO _ [V.ref pp,V.ref tb,V.ref c,V.int m]=[some (.ref pp),some (.ref tb),some (.ref c),some (.int m),none,none] from rfl];rwa [uV,kl];intro p dx hp hdx hne;have s1:Same H (upd (upd H dx (.own p)) p (.ins t.C_TableRun dx [])):=(Same.upd hdx).updM hp;simp only [uV];refine ⟨H,dx,wd,ins,oth,ss,a,b,r,xs,f,ws,s1,hp,ac,hP,hW,hl,fun bx td H1 hR=>⟨rfl,?_⟩⟩;obtain ⟨st0,est⟩:∃st0:GA.BT,st0=(bj ins ws (ins++oth),[]):=⟨_,rfl⟩
 have hb0:BxG (ins++oth) wd st0.1:=by rw [est];exact j7 hW.get hl
 have hst:st0.2.length<=60 * 0:=by rw [est];exact zq5 _
 rw [<- est] at hR q;generalize hRR:GO.fE F wd m.toNat 0 st0=R at q;refine fZ (fun σ H'=>∃(k:Nat)(bx:Addr)(s:GA.BT)(pl:V),(k:Int)<=max m 0/\TRunH t.C_TableRun H H' p tb bx td wd pl s/\BxG (ins++oth) wd s.1/\s.2.length<=60 * k/\((∃i:Nat,pl=.int i/\i<F.length/\R=GO.fE F wd (m.toNat-k) i s)\/(pl=.non/\R=(s,true)))/\σ=[some (.ref pp),some (.ref tb),some (.ref c),some (.int m),some (.ref p),some (.int k)])
  (fun (σ:L2.St) H'=>match (σ[5]?).join with | some (V.int i)=>(m-i).toNat | _=>0) (zAT 0 bx _ _ Jlk hR hb0 hst (.inl (zAC 0 rfl hF.pos hRR.symm)) rfl) ?_
 rintro σ H2 ⟨k,bx2,s2,pl,hk,hR2,hG2,hl2,hpl,rfl⟩;rwa [kl];have fin:R=(s2,decide (pl=.non))->jB K (V.ref p) "told" H2 fun x H1=>jB K (V.ref p) "boxes" H1 fun x_1 H1=>jB K (V.ref p) "place" H1 fun x_2 H1=>∀(p:Addr),H1 p=none->Q (V.ref p) (upd H1 p (HO.tup [x,x_1,V.bl (decide (x_2=.non))])):=by intro he;obtain ⟨dx3,e3⟩:=hR2.ob;refine df e3 T.c_TableRun.cl T.n_TableRun_told rfl (df e3 T.c_TableRun.cl T.n_TableRun_boxes rfl (df e3 T.c_TableRun.cl T.n_TableRun_place rfl fun u hu=>?_));have s5:=Same.upd (o:=.tup [V.ref td,V.ref bx2,V.bl (decide (pl=.non))]) hu;rw [he] at q;exact q u td bx2 _ (hR2.same.trans s5) hR2.fr.2.2 hR2.fr.2.1 ac (s5 _ _ hR2.tds) (s5 _ _ hR2.bxs)
 have mint:∀i:Nat,decide (V.int i=V.non)=false:=fun i=>rfl;refine aB (fun h1=>?_) (fun h1=>?_)
 ·obtain ⟨dx2,e2⟩:=hR2.ob;refine df e2 T.c_TableRun.cl T.n_TableRun_place rfl ?_;rcases hpl with ⟨i,rfl,hi,eR⟩ | ⟨rfl,eR⟩
  ·rw [mint];rwa [kl];obtain ⟨blk,hblk⟩:∃blk,F[i]?=some blk:=⟨_,zq6 hi⟩
   have hmem:=bD hblk;have hsg:=hF.st blk hmem;rw [show m.toNat-k=m.toNat-(k+1)+1 by omega,GO.mq hblk] at eR;obtain ⟨hG3,_⟩:=GO.BxG.beat hG2 w1 hG2 hsg.gd;have hl3:=GO.fm (w:=wd) (b0:=s2.1) (ds:=blk.ds) (s:=s2);have hsl:=hsg.len;rw [zq1 trivial];refine ⟨fun σ' H'=>∃(bx:Addr),TRunH t.C_TableRun H H' p tb bx td wd (k9 s2.1 blk.ed) (GO.beat wd s2.1 blk.ds s2)/\σ'=[some (V.ref pp),some (V.ref tb),some (V.ref c),some (V.int m),some (V.ref p),some (V.int (k+1))],?_,?_⟩
   ·rintro σ' H' ⟨bx',hRj,rfl⟩;refine zAC _ ?_ rfl (zAT (k+1) bx' _ _ Jlk hRj hG3 Jlk ?_ rfl)
    ·show (m-((k:Int)+1)).toNat<(m-(k:Int)).toNat;omega
    ·unfold GO.tR at eR
     cases e:GA.nxt s2.1 blk.ed with
     |none=>
      rw [e] at eR;exact .inr ⟨yJ e,eR⟩
     |some j=>rw [e] at eR;exact .inl (zAC j (yH e) (hF.tg blk hmem j (ud e)) eR)
   ·exact bP e2 rfl (zBJ H tb bx2 td wd i s2 F blk (ins++oth) (zAY hR2 hT hblk hsg hG2 w1 w8 Jlk fun bx' H4 hR4=>zn bx' hR4 rfl))
  ·rw [cf rfl,zq0 Jkm];exact fin eR
 ·refine fin ?_;rcases hpl with ⟨i,rfl,hi,eR⟩ | ⟨rfl,eR⟩
  ·rw [show m.toNat-k=0 by omega] at eR;exact eR
  ·exact eR
section
variable {CX:CXT} {P:Program} {w:World} {K:W.Frag} {mg:Str->Option Value} {base:Heap} {N:List Str} {qual:Str} {scope:Scope} {f:Addr} {cd:Value} {A:Around} {outer:List Env} {s:Shared} {H:Hp} {E:XK}
theorem rD:(oG CX P w K mg base N qual scope f cd A outer s H E).w=w:=rfl
theorem sY{X:Cx}{E:Value->Shared->Prop}:(X.wish E).w=X.w:=rfl
theorem xW{X:Cx}{N':List Str}{scope:Scope}{b:Bk}:(X.blk N' scope b).w=X.w:=rfl
end
def rO(ks:List W.WData):List (W.WData×V):=ks.zipIdx.map fun p=>(p.1,.int (p.2:Int))
theorem ul(k:W.WData):∀(ks:List W.WData)(s:Nat),bh ((ks.zipIdx s).map fun p=>(p.1,V.int (p.2:Int))) k=if k∈ks then some (.int ((s+ks.idxOf k:Nat):Int)) else none
 | [],s=>by rw [zq0 Jll];rfl
 |x::ks,s=>by
  rw [List.zipIdx_cons,ce]
  by_cases e:x=k
  ·rw [bB (by exact e),zq1 (by rw [e];exact cV ..),e,qS,Nat.add_zero]
  ·rw [bv (by exact e),ul k ks (s+1),show (x::ks).idxOf k=ks.idxOf k+1 by rw [List.idxOf_cons,show (x==k)=false by simpa using e];rfl]
   by_cases hk:k∈ks
   ·rw [zq1 hk,zq1 (zq9 _ hk),show s+1+ks.idxOf k=s+(ks.idxOf k+1) by omega]
   ·rw [zq0 hk,zq0 (fun z=>(zq12.mp z).elim (fun z=>e z.symm) hk)]
theorem jQ{ks:List W.WData}{k:W.WData}:bh (rO ks) k=if k∈ks then some (.int (ks.idxOf k:Int)) else none:=by have z:=ul k ks 0;rw [Bi] at z;exact z
theorem oZ{ks:List W.WData}:(rO ks).length=ks.length:=by unfold rO;rw [zq3,List.length_zipIdx]
theorem wn{ks:List W.WData}{m:W.WData}:rO (ks++[m])=rO ks++[(m,.int ks.length)]:=by unfold rO;rw [List.zipIdx_append,cg];simp
def MkV(K:W.Frag)(H:Hp)(x:V)(m:W.WData):Prop:=∃b,x=.ref b/\NkV K H m x/\GV.dpN m<=8
theorem MkV.keep{K:W.Frag}{H H':Hp}{x:V}{m:W.WData}(h:MkV K H x m)(t:TSame H H'):MkV K H' x m:=by obtain ⟨b,h1,h2,h3⟩:=h;exact zAC b h1 (h2.keep t) h3
def nlN(l:List Nat):List V:=l.map fun n:Nat=>V.int (n:Int)
def xQ(K:W.Frag)(a:Addr)(H:Hp)(Q:VK):Prop:=∃(xs:List V)(ms:List W.WData),H a=some (.lst xs)/\Paired (MkV K H) xs ms/\xs.length<=10000/\∀p H',Same H H'->H p=none->H' p=some (.lst (nlN (GX.dE ms)))->Q (.ref p) H'
def Al(K:W.Frag):Sp:=fun vs H Q _=>∃a:Addr,vs=[.ref a]/\xQ K a H Q
theorem DF{K:W.Frag}{a:Addr}{H:Hp}{Q:VK}{E:XK}:Al K [.ref a] H Q E=xQ K a H Q:=propext ⟨by rintro ⟨_,e,q⟩;cases e;exact q,fun q=>zn _ rfl q⟩
theorem yV(T:Txt K mg t):FnOk P w K mg base CX0 1 t.f_107 t.e_107 ["marks"] (Al K):=by
 refine T.d_107.F.ok sc_107 ∅ ?_;rintro cdv A outer s H vs Q E hr ⟨a,rfl,xs,ms,ha,hA,hl,q⟩;refine ⟨_,
   (XSs.h
   (ai
    (aq (i:=1) sc_107.nd rfl lc xo)
   (ai
    (br PassesOwn.never rfl (aY (yqv 0 vl)) (aA (i:=2) sc_107.nd rfl ll)
     (ak
      (aR (AQ (oX (n:=9) Jkm hr) (yqv 1 vc) (aa (yqv 2 vl) (aa (aL vS gl T.z_len PySem.boot_len (aa (yqv 1 vc) ae)) ae))))))
   (ak
    (aw (bI (tns:=["mark"]) (cns:=["numbers"]) (ci:=[1]) rfl (CompSc.of Jkl) (aY (yqv 0 vl)) (fun _=>(aA (i:=1) (show List.Nodup [(".0":Str),("mark":Str),("numbers":Str)] by decide +kernel) rfl ll (Or.inr Jkl))) (fun _=>bY) (fun _=>(xn (oX (n:=9) Jkm hr) (yqv 2 vc) (yqv 1 vl) (fun _ _=>rfl))))))))),?_⟩
 rw [show aO _ [V.ref a]=[some (.ref a),none,none] from rfl];simp_arith! [uO,sI,i6,sE,rD,sY,xW];intro d hd;refine later ?_;simp_arith! [uO,sI,i6,sE,rD,sY,xW];have la:=hA.length;refine ⟨⟨_,SqL.of (Same.upd hd _ _ ha)⟩,dD (xs:=xs) (fun i σ H'=>(Same H H'/\DnAt w.params K H' d (rO (GX.ksF (ms.take i))))/\∃o2,σ=[some (.ref a),some (.ref d),o2]) ⟨⟨Same.upd hd,DnAt.new⟩,_,rfl⟩ ?_ ?_ ?_⟩
 ·rintro i σ H' _ ⟨⟨sm,_⟩,_⟩;exact SqL.of (sm _ _ ha)
 ·rintro i x σ H1 hxi ⟨⟨sm,hD⟩,o2,rfl⟩;obtain ⟨m,hm,b,rfl,hk,h8⟩:=L2.Paired.get hA hxi;have hi:=(zq11.mp hm).1;have he:ms[i]=m:=(zq11.mp hm).2;have hks:=(GX.fR (ms.take i)).2.2;rw [dw] at hks;simp_arith! [sI,sE];refine ⟨⟨_,hD⟩,zn _ hD (zBA b _ m _ rfl hD (hk.keep sm.ts) h8 (by rw [oZ,zq8];omega) (fun y hy=>?_) fun hn o hD2=>?_)⟩
  ·rw [jQ] at hy
   split at hy
   ·rename_i hin
    refine ⟨⟨sm,?_⟩,_,rfl⟩;rw [dy hi,he,GX.cr,zq1 hin];exact hD
   ·cases hy
  ·rw [jQ] at hn
   split at hn
   ·cases hn
   ·rename_i hin
    refine ⟨⟨sm.updM hd,?_⟩,_,rfl⟩;rw [dy hi,he,GX.cr,zq0 hin,wn];rw [oZ] at hD2;exact hD2
 ·rintro σ H1 ⟨⟨sm,hD⟩,o2,rfl⟩;rw [la,dZ] at hD;refine later ?_;simp_arith! [i6];refine later ?_;simp_arith! [i6,rD,sY,xW];refine ⟨⟨_,SqL.of (sm _ _ ha)⟩,fun acc hacc bk=>?_⟩;refine jr (nlN (GX.dE ms)) (by rw [zq8];omega) (by rw [nlN,zq3,GX.dS,la]) (SqL.of (sm _ _ ha)) hacc (fun i x y hx hy H2 Q' s2 hQ=>?_) (fun H2 s2 he=>?_)
  ·obtain ⟨m,hm,b,rfl,hk,h8⟩:=L2.Paired.get hA hx;simp_arith! [i6];have sA:=sm.trans s2;unfold nlN at hy;rw [bE,GX.gX hm] at hy
   cases hy
   refine zAV d b _ m _ (zAW rfl rfl (hD.same s2) (hk.keep sA.ts) h8 ?_ (hQ _ (Same.refl _)));rw [jQ,zq1 (GX.mem_ksF.mpr (bD hm))]
  ·exact q acc H2 (sm.trans s2) (sm.free hacc) he
def xP(K:W.Frag)(e:Addr)(H:Hp)(Q:VK):Prop:=∃(ed:FZ.Ed),SqT K H e (dC ed)/\∀p H',Same H H'->NkV K H' (GY.cG ed) (.ref p)->Q (.ref p) H'
def Aj(K:W.Frag):Sp:=fun vs H Q _=>∃e:Addr,vs=[.ref e]/\xP K e H Q
theorem DE{K:W.Frag}{e:Addr}{H:Hp}{Q:VK}{E:XK}:Aj K [.ref e] H Q E=xP K e H Q:=propext ⟨by rintro ⟨_,e,q⟩;cases e;exact q,fun q=>zn _ rfl q⟩
def xR(K:W.Frag)(e:Addr)(H:Hp)(Q:VK):Prop:=∃(ed:FZ.Ed),SqT K H e (dC ed)/\∀p H',Same H H'->H p=none->H' p=some (.lst (nlN ed.tg))->Q (.ref p) H'
def An(K:W.Frag):Sp:=fun vs H Q _=>∃e:Addr,vs=[.ref e]/\xR K e H Q
theorem i8{K:W.Frag}{e:Addr}{H:Hp}{Q:VK}{E:XK}:An K [.ref e] H Q E=xR K e H Q:=propext ⟨by rintro ⟨_,e,q⟩;cases e;exact q,fun q=>zn _ rfl q⟩
theorem FF(T:Txt K mg t):FnOk P w K mg base CX0 1 t.f_105 t.e_105 ["ending"] (Aj K):=by
 refine T.d_105.F.ok Hs ∅ ?_;rintro cdv A outer s H vs Q E hr ⟨e,rfl,ed,he,q⟩;refine ⟨_,
   (XSs.h
   (ak
    (aw (cD (ar aT (ap ay (yqv 0 vl) aj) aC (az _)) (aG (aa (ap ay (yqv 0 vl) aj) (aa (ap ay (yqv 0 vl) aj) ae))) (aG (aa (ap ay (yqv 0 vl) aj) (aa cx ae))))))),?_⟩
 rw [show aO _ [V.ref e]=[some (.ref e)] from rfl];rwa []
 cases ed with
 |stop=>
  refine zAE _ _ he rfl rfl (zn _ rfl ?_);rw [zq0 Jkk];exact zAA _ _ he rfl fun p hp=>q p _ (Same.upd hp) (.tup (SqT.of ac) (.cons .str (.cons .non .nil)))
 |go i=>
  refine zAE _ _ he rfl rfl (zn _ rfl ?_);rw [zq0 Jkk];exact zAA _ _ he rfl fun p hp=>q p _ (Same.upd hp) (.tup (SqT.of ac) (.cons .str (.cons .non .nil)))
 |choose n i j=>refine zAE _ _ he rfl rfl (zn _ rfl ?_);rw [zq1 Jkk];exact zAA _ _ he rfl (zAA _ _ he rfl fun p hp=>q p _ (Same.upd hp) (.tup (SqT.of ac) (.cons .str (.cons .str .nil))))
theorem yY(T:Txt K mg t):FnOk P w K mg base CX0 1 t.f_100 t.e_100 ["ending"] (An K):=by
 refine T.d_100.F.ok Hq ∅ ?_;rintro cdv A outer s H vs Q E hr ⟨e,rfl,ed,he,q⟩;refine ⟨_,
   (XSs.h
   (ai
    (aH (ar aT (ap ay (yqv 0 vl) aj) aC (az _))
     (ak
      (aw (aJ (aa (ap ay (yqv 0 vl) aj) ae))))
     aD)
   (ai
    (aH (ar aT (ap ay (yqv 0 vl) aj) aC (az _))
     (ak
      (aw (aJ (aa (ap ay (yqv 0 vl) aj) (aa (ap ay (yqv 0 vl) aj) ae)))))
     aD)
   (ak
    (aw (aJ ae)))))),?_⟩
 rw [show aO _ [V.ref e]=[some (.ref e)] from rfl];rwa []
 cases ed with
 |stop=>
  refine zAE _ _ he rfl rfl (zn _ rfl ?_);rw [zq0 Jkk];refine zAE _ _ he rfl rfl (zn _ rfl ?_);rw [zq0 Jkk];exact fun p hp=>q p _ (Same.upd hp) hp ac
 |go i=>
  refine zAE _ _ he rfl rfl (zn _ rfl ?_);rw [zq1 Jkk];exact zAA _ _ he rfl fun p hp=>q p _ (Same.upd hp) hp ac
 |choose n i j=>refine zAE _ _ he rfl rfl (zn _ rfl ?_);rw [zq0 Jkk];refine zAE _ _ he rfl rfl (zn _ rfl ?_);rw [zq1 Jkk];exact zAA _ _ he rfl (zAA _ _ he rfl fun p hp=>q p _ (Same.upd hp) hp ac)
def xS(K:W.Frag)(tb c:Addr)(H:Hp)(Q:VK):Prop:=∃(F:List FZ.Blk)(cs:List Nat),TabV K H tb F/\H c=some (.lst (nlN cs))/\cs.length=F.length/\GY.Led F/\F.length<=5000/\∀p H',Same H H'->H p=none->H' p=some (.lst (nlN (GY.nxt F cs)))->Q (.ref p) H'
def Ao(K:W.Frag):Sp:=fun vs H Q _=>∃tb c:Addr,vs=[.ref tb,.ref c]/\xS K tb c H Q
theorem uU{K:W.Frag}{tb c:Addr}{H:Hp}{Q:VK}{E:XK}:Ao K [.ref tb,.ref c] H Q E=xS K tb c H Q:=propext ⟨by rintro ⟨_,_,e,q⟩;cases e;exact q,fun q=>zAD _ _ rfl q⟩
theorem jY{l:List Nat}{i n:Nat}(h:l[i]?=some n):(nlN l)[i]?=some (.int (n:Int)):=by unfold nlN;rw [bE,h];rfl
theorem d8{l:List Nat}:(nlN l).length=l.length:=by unfold nlN;rw [zq3]
theorem yd{α:Type}{f:α->W.WData}{n:Nat}(h:∀x,GV.dpN (f x)<=n):∀l:List α,GV.iD (l.map f)<=n
 | []=>by rw [xu,GV.iD];exact cq _
 |x::l=>by rw [ce,GV.iD];have:=h x;have:=yd h l;omega
theorem AG(e:FZ.Ed):e.tg.length<=2:=by cases e<;>simp [FZ.Ed.tg]
theorem FI(T:Txt K mg t):FnOk P w K mg base CX0 2 t.f_106 t.e_106 ["table","classes"] (Ao K):=by
 have G_107:=@yV P w K mg base t T;have G_100:=@yY P w K mg base t T;refine T.d_106.F.ok sc_106 ∅ (fun cdv A outer s H vs Q E hr h=>?_);obtain ⟨tb,c,rfl,F,cs,⟨xs,hT,hF⟩,hc,hl,hL,h5,q⟩:=h;refine ⟨_,
   (XSs.h
   (ai
    (aq (i:=2) sc_106.nd rfl ll (aJ ae))
   (ai
    (br PassesOwn.never rfl (vy T.z_zip (aa (yqv 0 vl) (aa (yqv 1 vc) ae)) gl) (eo rfl (aV (aA (i:=3) sc_106.nd rfl ll) (aV (aA (i:=4) sc_106.nd rfl ll) dk)))
     (ak
      (aR (c7 PySem.F.plainAttrs_list PySem.F.slot_list_append PySem.F.type_list_append aZ (yqv 2 vl) (aa (aG (aa (yqv 4 vl) (aa (bA eD gl T.z_tuple boot_tuple (aa (bI (tns:=["place"]) (cns:=["classes"]) (ci:=[1]) rfl (CompSc.of Jkl) (aY (au T.d_100 G_100 hr.m (aa (ap ay (yqv 3 vl) aj) ae) gl)) (fun _=>(aA (i:=1) (show List.Nodup [(".0":Str),("place":Str),("classes":Str)] by decide +kernel) rfl ll (Or.inr Jkl))) (fun _=>bY) (fun _=>(ap aN (yqv 2 vc) (yqv 1 vl)))) ae)) ae))) ae)))))
   (ak
    (aw (au T.d_107 G_107 hr.m (aa (yqv 2 vl) ae) gl)))))),?_⟩
 rw [show aO _ [V.ref tb,V.ref c]=[some (.ref tb),some (.ref c),none,none,none] from rfl];simp_arith! [];intro l hl0;refine later ?_;simp_arith! [];have lF:=hF.length;have s0:=Same.upd (o:=.lst []) hl0;refine zAE tb c rfl ⟨_,SqL.of (s0 _ _ hT)⟩ ⟨_,SqL.of (s0 _ _ hc)⟩ ?_;refine yo (xs:=xs) (ys:=nlN cs) (by rw [d8];omega) (fun i σ H'=>(Same H H'/\∃ys,H' l=some (.lst ys)/\ys.length=i/\Paired (MkV K H') ys ((List.zipWith (GY.mk1 cs) F cs).take i))/\∃o3 o4,σ=[some (.ref tb),some (.ref c),some (.ref l),o3,o4]) ⟨⟨s0,zAC ([]) ac rfl .nil⟩,zAH _ _ rfl⟩ ?_ ?_ ?_
 ·rintro i σ H' _ ⟨⟨sm,_⟩,_⟩;exact ⟨SqL.of (sm _ _ hT),SqL.of (sm _ _ hc)⟩
 ·rintro i x y σ H1 pp hx hy hpp ⟨⟨sm,ys,hyl,ly,hp⟩,o3,o4,rfl⟩;obtain ⟨b,hb,q0,a0,e0,vs,rfl,hq,ha0,hds,he⟩:=L2.Paired.get hF hx;obtain ⟨own,ho,zo⟩:=GY.f9 hl hb;rw [jY ho] at hy
  cases hy
  have hi:=(zq11.mp hx).1;have s1:=sm.trans (Same.upd (o:=.tup [V.ref q0,V.int own]) hpp);have hyl1:=Same.upd (o:=.tup [V.ref q0,V.int own]) hpp _ _ hyl;have hp1:=FL.Paired.imp hp fun y _ m _ z=>z.keep (Same.upd (o:=.tup [V.ref q0,V.int own]) hpp).ts;simp_arith! [i8];refine zAC _ (SqT.of ac) rfl ?_;generalize upd H1 pp (.tup [V.ref q0,V.int own])=H2 at s1 hyl1 hp1 ⊢;simp_arith! [i8];refine ⟨.inl ⟨rfl,_,SqL.of hyl1⟩,zAA _ _ (s1.seqT hq) rfl ?_⟩;rw [i8];refine zn b.ed (s1.seqT he) fun p2 H3 s3 hp2 he2=>?_;refine zAC p2 rfl ⟨_,SqL.of he2⟩ fun acc hacc bk=>?_;have s13:=s1.trans s3;have hbF:=bD hb;refine jr (nlN (b.ed.tg.map fun i=>cs.getD i 0)) (by rw [d8,zq8];have:=AG b.ed;omega) (by rw [d8,d8,zq3]) (SqL.of he2) hacc (fun j z u hz hu H4 Q' s4 hQ=>?_) (fun H4 s4 he4=>?_)
  ·have hj:j<b.ed.tg.length:=by have:=(zq11.mp hz).1;rw [d8] at this;exact this
   have ej:b.ed.tg[j]?=some b.ed.tg[j]:=zq6 hj;rw [jY ej] at hz
   cases hz
   rw [jY (by rw [bE,ej];rfl)] at hu
   cases hu
   have hlt:=hL b hbF _ (iz hj);simp_arith! [];refine zAA _ _ (SqL.of (s4 _ _ (s13 _ _ hc))) (bq (jY (zq6 (show b.ed.tg[j]<cs.length by omega)))) ?_;have z:=hQ _ (Same.refl _);dsimp only at z;rw [cw,zq6 (show b.ed.tg[j]<cs.length by omega)] at z;exact z
  ·refine ⟨_,.inl ⟨SqL.of he4,fun l1 hl1 p5 hp5=>?_⟩⟩;have t1:=Same.upd (o:=.tup (nlN (b.ed.tg.map fun i=>cs.getD i 0))) hl1;have t2:=Same.upd (o:=.tup [V.int own,V.ref l1]) hp5;have s4':=s3.trans s4;have t12:=(s4'.trans t1).trans t2;have hlx:=t12 _ _ hyl1;refine zAG _ hlx (by rw [zq8];omega) ⟨(s1.trans t12).updM hl0,zAC (ys++[V.ref p5]) ac (by rw [zq7,bV,ly]) ?_⟩ (zAH _ _ rfl);have hzl:i<(List.zipWith (GY.mk1 cs) F cs).length:=by rw [GY.kL hl];omega
   have hze:(List.zipWith (GY.mk1 cs) F cs)[i]=GY.mk1 cs b own:=(zq11.mp zo).2;rw [dy hzl,hze];have tu:TSame (upd (upd H4 l1 (.tup (nlN (b.ed.tg.map fun i=>cs.getD i 0)))) p5 (.tup [V.int own,V.ref l1])) (upd (upd (upd H4 l1 (.tup (nlN (b.ed.tg.map fun i=>cs.getD i 0)))) p5 (.tup [V.int own,V.ref l1])) l (.lst (ys++[V.ref p5]))):=TSame.updL hlx;refine FL.Paired.snoc ⟨p5,rfl,?_,?_⟩ (FL.Paired.imp hp1 fun y _ m _ z=>(z.keep t12.ts).keep tu)
   ·refine (NkV.tup (SqT.of ac) (.cons .int (.cons (.tup (SqT.of (t2 _ _ ac)) ?_) .nil))).keep tu;unfold nlN;rw [fJ];exact NksV.of fun j _=>.int
   ·unfold GY.mk1;simp only [GV.dpN,GV.iD];have:=yd (f:=fun i=>W.WData.int ((cs.getD i 0:Nat):Int)) (n:=0) (fun x=>by simp [GV.dpN]) b.ed.tg;omega
 ·rintro σ H1 ⟨⟨sm,ys,hy,ly,hp⟩,o3,o4,rfl⟩;dsimp only;refine later ?_;simp_arith! [DF];rw [lF,<- hl,<- GY.kL hl,dZ] at hp;refine zAE ys _ hy hp Jlk fun p H2 s2 hp2 he=>q p H2 (sm.trans s2) (sm.free hp2) he
variable {H:Hp}
def xJ(K:W.Frag)(tb:Addr)(H:Hp)(Q:VK):Prop:=∃(F:List FZ.Blk),TabV K H tb F/\GY.Led F/\F.length<=5000/\(∀b∈F,b.ds.length<=1000)/\∀p cs H',Same H H'->H p=none->H' p=some (.lst (nlN cs))->GY.Prt F cs->GY.nxt F cs=cs->Q (.ref p) H'
def Ae(K:W.Frag):Sp:=fun vs H Q _=>∃tb:Addr,vs=[.ref tb]/\xJ K tb H Q
theorem IW{K:W.Frag}{tb:Addr}{Q:VK}{E:XK}:Ae K [.ref tb] H Q E=xJ K tb H Q:=propext ⟨by rintro ⟨_,e,q⟩;cases e;exact q,fun q=>zn _ rfl q⟩
theorem mX{K:W.Frag}(o:Opd):NkV K H (GY.vW o.v) o.v:=by
 cases o with
 |box n=>exact .str
 |word i=>exact .int
theorem Cf{K:W.Frag}(d:FB.Deed):NksV K H (d.vs.map GY.vW) d.vs:=by
 cases d with
 |tell o=>exact .cons .str (.cons (mX o) .nil)
 |copy n o=>exact .cons .str (.cons .str (.cons (mX o) .nil))
 |op k n o p=>exact .cons .str (.cons .str (.cons (mX o) (.cons (mX p) .nil)))
theorem pI{K:W.Frag}{H:Hp}:∀{vs:List V} {ds:List FB.Deed},Paired (DeedV1 K H) vs ds->NksV K H (ds.map GY.mG) vs
 |_,_,.nil=>.nil
 |_,_,.cons ⟨q,e,h,_⟩ t=>by subst e;exact .cons (.tup h (Cf _)) (pI t)
theorem Fe(o:Opd):GV.dpN (GY.vW o.v)=0:=by cases o<;>simp [GY.vW,Opd.v,GV.dpN]
theorem BZ(d:FB.Deed):GV.dpN (GY.mG d)<=1:=by
 unfold GY.mG;rw [GV.dpN]
 cases d<;>simp [FB.Deed.vs,GV.iD,Fe]<;>simp [GY.vW,GV.dpN]
theorem C0(e:FZ.Ed):GV.dpN (GY.cG e)<=1:=by cases e<;>simp [GY.cG,GV.dpN,GV.iD]
theorem Fd(b:FZ.Blk):GV.dpN (GY.mk0 b)<=8:=by unfold GY.mk0;have h1:=yd (f:=GY.mG) (n:=1) BZ b.ds;have h2:=C0 b.ed;simp only [GV.dpN,GV.iD];omega
def IF:V->Nat
 | .int i=>i.toNat
 |_=>0
def ID:Option HO->List Nat
 |some (.lst vs)=>vs.map IF
 |_=>[]
def adV:Option (Option V)->Option Addr
 |some (some (.ref p))=>some p
 |_=>none
def muA(σ:L2.St)(H:Hp):Nat:=GX.dU (ID ((adV σ[1]?).bind H))
theorem yC{x y:Option V}{p:Addr}{c:List Nat}(h:H p=some (.lst (nlN c))):muA [x,some (.ref p),y] H=GX.dU c:=by show GX.dU (ID (H p))=_;rw [h];show GX.dU ((nlN c).map IF)=_;unfold nlN;rw [fJ];congr 1;exact (tF (g:=id) fun n _=>rfl).trans (List.map_id c)
theorem Fw(T:Txt K mg t):FnOk P w K mg base CX0 3 t.f_104 t.e_104 ["table"] (Ae K):=by
 have G_107:=@yV P w K mg base t T;have G_105:=@FF P w K mg base t T;have G_106:=@FI P w K mg base t T;refine T.d_104.F.ok sc_104 ∅ ?_;rintro cdv A outer s H vs Q E hr ⟨tb,rfl,F,hTV,hL,h5,hds,q⟩;refine ⟨_,
   (XSs.h
   (ai
    (aq (i:=1) sc_104.nd rfl ll (au T.d_107 G_107 hr.m (aa (bI (tns:=["state"]) (cns:=[]) (ci:=[]) rfl (CompSc.of Jkl) (aY (yqv 0 vl)) (fun _=>(aA (i:=1) (show List.Nodup [(".0":Str),("state":Str)] by decide +kernel) rfl ll (Or.inr Jkl))) (fun _=>bY) (fun _=>(aG (aa (bA eD gl T.z_tuple boot_tuple (aa (ap ay (yqv 1 vl) aj) ae)) (aa (au T.d_105 G_105 hr.m (aa (ap ay (yqv 1 vl) aj) ae) gl) ae))))) ae) gl))
   (ai
    (aq (i:=2) sc_104.nd rfl ll (au T.d_106 G_106 hr.m (aa (yqv 0 vl) (aa (yqv 1 vl) ae)) gl))
   (ai
    (eN PassesOwn.never (ar (zc (n:=0) (oX Jkm hr)) (yqv 2 vl) (yqv 1 vl) (az _))
     (ai
      (aq (i:=1) sc_104.nd rfl ll (yqv 2 vl))
     (ak
      (aq (i:=2) sc_104.nd rfl ll (au T.d_106 G_106 hr.m (aa (yqv 0 vl) (aa (yqv 1 vl) ae)) gl)))))
   (ak
    (aw (yqv 1 vl))))))),?_⟩
 rw [show aO _ [V.ref tb]=[some (.ref tb),none,none] from rfl];simp_arith! [DF];obtain ⟨xs,hT,hF⟩:=id hTV;have lF:=hF.length;refine ⟨⟨_,SqL.of hT⟩,fun acc hacc bk=>?_⟩;refine d6 (xs:=xs) (fun i ys H'=>Same H H'/\H' acc=some (.lst ys)/\ys.length=i/\Paired (MkV K H') ys ((F.map GY.mk0).take i)) ?_ ?_ ?_ ?_
 ·exact zAF (Same.upd hacc) ac rfl .nil
 ·intro i ys H' _ h;exact SqL.of (h.1 _ _ hT)
 ·rintro i x ys H1 os hxi ho ⟨sm,hacc1,ly,hA⟩
  match os,ho with
  | [o],_=>
   obtain ⟨b,hb,q0,a0,e0,vs,rfl,hq,ha0,hdv,he⟩:=L2.Paired.get hF hxi;have hi:=(zq11.mp hb).1;rwa [DE];refine ⟨zn ([some (.ref q0)]) rfl rfl,?_⟩;rw [zq1 trivial];refine zAA _ _ (sm.seqT hq) rfl ?_;have hdv1:NksV K H1 (b.ds.map GY.mG) vs:=(pI hdv).keep sm.ts;refine zAD a0 vs rfl (.inl ⟨SqL.of (sm _ _ ha0),fun l hl=>?_⟩);have t1:=Same.upd (o:=.tup vs) hl;refine zAA _ _ ((sm.trans t1).seqT hq) rfl ?_;rw [DE];refine zn b.ed ((sm.trans t1).seqT he) fun p2 H3 s3 hk2 p3 hp3=>?_;have t3:=Same.upd (o:=.tup [V.ref l,V.ref p2]) hp3;have t123:=(t1.trans s3).trans t3;have hac:=t123 _ _ hacc1;have tu:TSame (upd H3 p3 (.tup [V.ref l,V.ref p2])) (upd (upd H3 p3 (.tup [V.ref l,V.ref p2])) acc (.lst (ys++[V.ref p3]))):=TSame.updL hac;refine zAQ hac (by rw [zq8];omega) ((sm.trans t123).updM hacc) ac (by rw [zq7,bV,ly]) ?_;have hzl:i<(F.map GY.mk0).length:=by rw [zq3];exact hi
   have hze:(F.map GY.mk0)[i]=GY.mk0 b:=by rw [List.getElem_map,(zq11.mp hb).2]
   rw [dy hzl,hze];refine FL.Paired.snoc ⟨p3,rfl,?_,Fd b⟩ (FL.Paired.imp hA fun y _ m _ z=>(z.keep t123.ts).keep tu);exact (NkV.tup (SqT.of ac) (.cons (.tup (SqT.of (t3 _ _ (s3 _ _ ac))) (hdv1.keep t123.ts)) (.cons (hk2.keep t3.ts) .nil))).keep tu
 rintro ys H1 ⟨sm,hacc1,ly,hA⟩;rw [lF,<- zq3 (f:=GY.mk0),dZ] at hA;refine zAE ys _ hacc1 hA Jlk fun p1 H2 s2 hp1 he1=>later ?_;have s12:=sm.trans s2;simp_arith! [uU];refine zBB F (GY.cl0 F) (hTV.same s12) he1 GY.cls0.len hL h5 fun p2 H3 s3 hp2 he2=>later ?_;simp_arith! [uU];refine fZ (fun σ H'=>Same H H'/\∃p c p',H p=none/\H' p=some (.lst (nlN c))/\GY.Prt F c/\H p'=none/\H' p'=some (.lst (nlN (GY.nxt F c)))/\σ=[some (.ref tb),some (.ref p),some (.ref p')]) muA ⟨s12.trans s3,zBD p1 _ p2 (sm.free hp1) (s3 _ _ he1) GY.cls0 (s12.free hp2) he2 rfl⟩ ?_;rintro σ H4 ⟨s4,p,c,p',hp,hpe,hP,hp',hpe',rfl⟩;simp_arith! [uU];have z:=FL.uX (K:=K) (H:=H4) (n:=0) (a:=p') (b:=p) (xs:=(GY.nxt F c).map fun n:Nat=>(n:Int)) (ys:=c.map fun n:Nat=>(n:Int)) (SqL.of (by rw [hpe',fJ];rfl)) (SqL.of (by rw [hpe,fJ];rfl));refine zn _ z (zn _ rfl ?_)
 by_cases e:GY.nxt F c=c
 ·rw [cf (by rw [e]),zq0 Jkm];refine later ?_;simp_arith! [];exact q p c H4 s4 hp hpe hP e
 ·have ne:¬(GY.nxt F c).map (fun n:Nat=>(n:Int))=c.map fun n:Nat=>(n:Int):=fun z=>e (GY.jt (fun x y e=>Int.ofNat.inj e) z);rw [bC ne,zq1 Jkm];have hm:muA [some (.ref tb),some (.ref p),some (.ref p')] H4=GX.dU c:=yC hpe;refine zn (fun σ' H'=>(Same H H'/\∃p c p',H p=none/\H' p=some (.lst (nlN c))/\GY.Prt F c/\H p'=none/\H' p'=some (.lst (nlN (GY.nxt F c)))/\σ'=[some (.ref tb),some (.ref p),some (.ref p')])/\muA σ' H'<GX.dU c) (fun σ' H' h=>zAC _ (by rw [hm];exact h.2) rfl h.1) (later ?_);simp_arith! [uU];have hP2:=GY.JW hP hL;refine zBB F (GY.nxt F c) (hTV.same s4) hpe' hP2.len hL h5 fun p6 H6 s6 hp6 he6=>⟨⟨s4.trans s6,zBD p' _ p6 hp' (s6 _ _ hpe') hP2 (s4.free hp6) he6 rfl⟩,?_⟩;rw [yC (s6 _ _ hpe')];exact GY.yK hP e
variable {a i:Nat}
inductive Rch (F:List FZ.Blk):Nat->Prop where
 |zero:Rch F 0
 |step {i j:Nat} {b:FZ.Blk}:Rch F i->F[i]?=some b->j∈b.ed.tg->Rch F j
def blV(l:List Bool):List V:=l.map V.bl
theorem xU{l:List Bool}{b:Bool}(h:l[i]?=some b):(blV l)[i]?=some (.bl b):=by unfold blV;rw [bE,h];rfl
theorem BM{l:List Bool}:(blV l).length=l.length:=by unfold blV;rw [zq3]
def xO(K:W.Frag)(tb:Addr)(H:Hp)(Q:VK):Prop:=∃(F:List FZ.Blk),TabV K H tb F/\GY.Led F/\0<F.length/\F.length<=5000/\∀p ws H',Same H H'->H p=none->H' p=some (.lst (blV ws))->ws.length=F.length->(∀i,ws[i]?=some true↔Rch F i)->Q (.ref p) H'
def Ai(K:W.Frag):Sp:=fun vs H Q _=>∃tb:Addr,vs=[.ref tb]/\xO K tb H Q
theorem Jl{K:W.Frag}{tb:Addr}{H:Hp}{Q:VK}{E:XK}:Ai K [.ref tb] H Q E=xO K tb H Q:=propext ⟨by rintro ⟨_,e,q⟩;cases e;exact q,fun q=>zn _ rfl q⟩
def IE:Option HO->List V
 |some (.lst vs)=>vs
 |_=>[]
def muL(wa ah:Addr)(H:Hp):Nat:=3 * (IE (H wa)).countP (fun v=>decide (v=V.bl false))+(IE (H ah)).length
theorem rV{H:Hp}{wa ah:Addr}{ws:List Bool}{vs:List V}(h1:H wa=some (.lst (blV ws)))(h2:H ah=some (.lst vs)):muL wa ah H=3 * ws.countP (fun b=>! b)+vs.length:=by
 unfold muL;rw [h1,h2];show 3 * (blV ws).countP _+vs.length=_;unfold blV;rw [Bl];congr 2;refine List.countP_congr fun b _=>?_
 cases b<;>simp
theorem BV{ws:List Bool}(h:ws[i]?=some false):(ws.set i true).countP (fun b=>! b)+1=ws.countP (fun b=>! b):=by
 induction ws generalizing i with
 |nil=>simp at h
 |cons b ws ih=>
  cases i with
  |zero=>
   simp at h;subst h;simp [List.countP_cons]
  |succ i=>have:=ih (i:=i) (by simpa using h);rw [List.set_cons_succ,xv,xv];omega
structure Wlk(F:List FZ.Blk)(ws:List Bool)(as:List Nat):Prop where
 len:ws.length=F.length
 rch:∀a∈as,Rch F a/\a<F.length
 tru:∀i,ws[i]?=some true->Rch F i
 nil:ws[0]?=some true\/0∈as
 cl:∀(i:Nat)(b:FZ.Blk),ws[i]?=some true->F[i]?=some b->∀j∈b.ed.tg,ws[j]?=some true\/j∈as
theorem Wlk.over{F:List FZ.Blk}{ws:List Bool}(h:Wlk F ws [])(hL:GY.Led F):∀i,ws[i]?=some true↔Rch F i:=fun i=>⟨h.tru i,fun r=>by
 induction r with
 |zero=>exact h.nil.elim id fun z=>by cases z
 |step _ hb hj ih=>exact (h.cl _ _ ih hb _ hj).elim id fun z=>by cases z⟩
theorem jw{ws:List Bool}(ha:a<ws.length):(ws.set a true)[i]?=some true↔i=a\/ws[i]?=some true:=by
 rw [List.getElem?_set]
 by_cases e:a=i
 ·rw [zq1 e,zq1 Jlk];exact ⟨fun _=>.inl e.symm,fun _=>rfl⟩
 ·rw [zq0 e];exact ⟨.inr,fun z=>z.elim (fun z=>absurd z.symm e) id⟩
theorem Wlk.skip{F:List FZ.Blk}{ws:List Bool}{as:List Nat}(h:Wlk F ws (as++[a]))(ha:ws[a]?=some true):Wlk F ws as where
 len:=h.len
 rch:=fun x hx=>h.rch x (iu _ hx)
 tru:=h.tru
 nil:=h.nil.elim .inl fun z=>(zq18.mp z).elim .inr fun z=>.inl (by rw [zq10.mp z];exact ha)
 cl:=fun i b hi hb j hj=>(h.cl i b hi hb j hj).elim .inl fun z=>(zq18.mp z).elim .inr fun z=>.inl (by rw [zq10.mp z];exact ha)
theorem Wlk.take{F:List FZ.Blk}{ws:List Bool}{as:List Nat}{b:FZ.Blk}(h:Wlk F ws (as++[a]))(hL:GY.Led F)(hb:F[a]?=some b):Wlk F (ws.set a true) (as++b.ed.tg):=by
 have ha:=h.rch a (d5 _ (zq10.mpr rfl));have hw:a<ws.length:=by rw [h.len];exact ha.2
 have mv:∀j,ws[j]?=some true\/j∈as++[a]->(ws.set a true)[j]?=some true\/j∈as++b.ed.tg:=fun j hj=>by
  rcases hj with z | z
  ·exact .inl ((jw hw).mpr (.inr z))
  rcases zq18.mp z with z | z
  ·exact .inr (iu _ z)
  ·exact .inl ((jw hw).mpr (.inl (zq10.mp z)))
 refine ⟨by rw [tw];exact h.len,fun x hx=>?_,fun i hi=>?_,mv 0 h.nil,fun i c hi hc j hj=>?_⟩
 ·rcases zq18.mp hx with z | z
  ·exact h.rch x (iu _ z)
  ·exact ⟨.step ha.1 hb z,hL b (bD hb) x z⟩
 ·rcases (jw hw).mp hi with z | z
  ·rw [z];exact ha.1
  ·exact h.tru i z
 ·rcases (jw hw).mp hi with z | z
  ·rw [z,hb] at hc
   cases hc
   exact .inr (d5 _ hj)
  ·exact mv j (h.cl i c z hc j hj)
theorem FE(T:Txt K mg t):FnOk P w K mg base CX0 2 t.f_108 t.e_108 ["table"] (Ai K):=by
 have G_100:=@yY P w K mg base t T;refine T.d_108.F.ok sc_108 ∅ ?_;rintro cdv A outer s H vs Q E hr ⟨tb,rfl,F,hTV,hL,h0,h5,q⟩;refine ⟨_,
   (XSs.h
   (ai
    (ez (i:=1) sc_108.nd rfl ll rfl Jkl (tns:=["state"]) (cns:=[]) (ci:=[]) rfl (CompSc.of Jkl) (aY (yqv 0 vl)) (fun _=>(aA (i:=1) (show List.Nodup [(".0":Str),("state":Str)] by decide +kernel) rfl ll (Or.inr Jkl))) (fun _=>bY) (fun _=>iS))
   (ai
    (aq (i:=2) sc_108.nd rfl ll (aJ (aa aj ae)))
   (ai
    (eN PassesOwn.never (xq (yqv 2 vl) (fun _=>rfl))
     (ai
      (aq (i:=3) sc_108.nd rfl ll (g7 PySem.F.plainAttrs_list PySem.F.slot_list_pop PySem.F.type_list_pop rT (yqv 2 vl)))
     (ak
      (aH (iq (d9 (ap aN (yqv 1 vl) (yqv 3 vl))))
       (ai
        (ip iS (nK (yqv 1 vl) (yqv 3 vl) kx))
       (ak
        (aR (c7 PySem.F.plainAttrs_list PySem.F.slot_list_extend PySem.F.type_list_extend wF (yqv 2 vl) (aa (au T.d_100 G_100 hr.m (aa (ap ay (ap aN (yqv 0 vl) (yqv 3 vl)) aj) ae) gl) ae)))))
       aD))))
   (ak
    (aw (yqv 1 vl))))))),?_⟩
 rw [show aO _ [V.ref tb]=[some (.ref tb),none,none,none] from rfl];simp_arith! [];obtain ⟨xs,hT,hF⟩:=id hTV;have lF:=hF.length;refine ⟨⟨_,SqL.of hT⟩,fun wa hwa bk=>?_⟩;refine BO (fun _=>.bl false) (by rw [zq8];omega) (SqL.of hT) hwa (fun x hx H' Q' sm hh=>by rwa [];exact hh) ?_;refine later ?_;simp_arith! [];intro ah hah;refine later ?_;simp_arith! [i8];have nwa:wa≠ah:=am ac hah;have s1:=(Same.upd (o:=.lst (xs.map fun _=>V.bl false)) hwa).trans (Same.upd (o:=.lst [V.int 0]) hah);have hah0:H ah=none:=(Same.upd hwa).free hah;refine fZ (fun σ H'=>Same H H'/\∃ws as o3,H' wa=some (.lst (blV ws))/\H' ah=some (.lst (nlN as))/\as.length+2 * ws.countP (fun b=>! b)<=2 * F.length+1/\Wlk F ws as/\σ=[some (.ref tb),some (.ref wa),some (.ref ah),o3]) (fun _ H'=>muL wa ah H') ?_ ?_
 ·refine ⟨s1,zAL (List.replicate F.length false) ([0]) _ ?_ ac (by have:=List.countP_le_length (p:=fun b=>! b) (l:=List.replicate F.length false);rw [vC] at this;simp only [List.length_singleton];omega) ⟨Jll,fun a ha=>by rw [zq10.mp ha];exact ⟨.zero,h0⟩,fun i hi=>?_,.inr Jll,fun i b hi=>?_⟩ rfl⟩
  ·rw [ao nwa,ac];unfold blV;rw [List.map_replicate,<- lF];congr 2;exact List.map_const ..
  ·rw [Bv] at hi;split at hi<;>cases hi
  ·rw [Bv] at hi;split at hi<;>cases hi
 rintro σ H1 ⟨sm,ws,as,o3,hwe,hae,hal,hW,rfl⟩;simp_arith! [i8];refine zn _ (.inl (zn _ (SqL.of hae) rfl)) ?_
 by_cases e:as=[]
 ·subst e;rw [zq0 Jkm];refine later ?_;simp_arith! [];exact q wa ws H1 sm hwa hwe hW.len (hW.over hL)
 ·obtain ⟨as',a,rfl⟩:∃as' a,as=as'++[a]:=⟨as.dropLast,as.getLast e,(xy e).symm⟩
  have ha:=hW.rch a (d5 _ (zq10.mpr rfl));have hn:nlN (as'++[a])=nlN as'++[V.int a]:=by unfold nlN;rw [cg];rfl
  rw [hn] at hae ⊢;rw [zq1 Jll];have hm:muL wa ah H1=3 * ws.countP (fun b=>! b)+(as'.length+1):=by rw [rV hwe hae,zq7,d8];rfl
  refine zn (fun σ' H'=>(Same H H'/\∃ws as o3,H' wa=some (.lst (blV ws))/\H' ah=some (.lst (nlN as))/\as.length+2 * ws.countP (fun b=>! b)<=2 * F.length+1/\Wlk F ws as/\σ'=[some (.ref tb),some (.ref wa),some (.ref ah),o3])/\muL wa ah H'<muL wa ah H1) (fun σ' H' h=>zAC _ h.2 rfl h.1) ?_;refine ⟨.inl ⟨rfl,_,SqL.of hae⟩,zAA _ _ hae (by rw [zq7,bV,Bq,iy (zq5 _),rg];rfl) (later ?_)⟩;rw [List.dropLast_concat];have hm2:Same H (upd H1 ah (.lst (nlN as'))):=sm.updM hah0;have hwe2:upd H1 ah (.lst (nlN as')) wa=some (.lst (blV ws)):=by rw [ao nwa];exact hwe
  have hae2:upd H1 ah (.lst (nlN as')) ah=some (.lst (nlN as')):=ac;generalize upd H1 ah (.lst (nlN as'))=H2 at hm2 hwe2 hae2 ⊢;have hlt:a<ws.length:=by rw [hW.len];exact ha.2
  rw [zq7,bV] at hal;simp_arith! [i8];refine zAA _ _ (SqL.of hwe2) (bq (xU (zq6 hlt))) (zn _ rfl ?_)
  cases hwa2:ws[a] with
  |true=>
   rw [zq0 Jkm];refine ⟨⟨hm2,zAL ws as' _ hwe2 hae2 Jlk (hW.skip (by rw [zq6 hlt,hwa2])) rfl⟩,?_⟩;rw [hm,rV hwe2 hae2,d8];omega
  |false=>
   rw [zq1 Jkm];have hb:F[a]?=some F[a]:=zq6 ha.2;refine zAM wa _ _ a rfl rfl hwe2 (FL.mS (by rw [BM];exact hlt)) (later ?_);have eS:(blV ws).set a (V.bl true)=blV (ws.set a true):=by unfold blV;rw [List.map_set]
   rw [eS];have hm3:Same H (upd H2 wa (.lst (blV (ws.set a true)))):=hm2.updM hwa;have hwe3:upd H2 wa (.lst (blV (ws.set a true))) wa=some (.lst (blV (ws.set a true))):=ac;have hae3:upd H2 wa (.lst (blV (ws.set a true))) ah=some (.lst (nlN as')):=by rw [ao nwa.symm];exact hae2
   generalize upd H2 wa (.lst (blV (ws.set a true)))=H3 at hm3 hwe3 hae3 ⊢;obtain ⟨xs3,x3,hT3,hx3,q0,a0,e0,vs,rfl,hq,ha0,hds,he⟩:=(hTV.same hm3).at hb;simp_arith! [i8];refine ⟨.inl ⟨rfl,_,SqL.of hae3⟩,zAA _ _ (SqL.of hT3) (bq hx3) ?_⟩;simp_arith! [i8];refine zAA _ _ hq rfl ?_;rw [i8];refine zn (F[a].ed) he fun p5 H5 s5 hp5 he5=>?_;have cs:=BV (show ws[a]?=some false by rw [zq6 hlt,hwa2]);have tl:=AG F[a].ed;have hap:nlN as'++nlN F[a].ed.tg=nlN (as'++F[a].ed.tg):=by unfold nlN;rw [cg]
   refine zBA ah p5 _ _ rfl rfl (s5 _ _ hae3) he5 (by rw [d8,d8,zq8];omega) ⟨(hm3.trans s5).updM hah0,zAL (ws.set a true) (as'++F[a].ed.tg) _ (by rw [ao nwa];exact s5 _ _ hwe3) (by rw [ac,hap]) (by rw [zq7];omega) (hW.take hL hb) rfl⟩ ?_;rw [hm,rV (ws:=ws.set a true) (vs:=nlN (as'++F[a].ed.tg)) (by rw [ao nwa];exact s5 _ _ hwe3) (by rw [ac,hap]),d8,zq7];omega
variable {H:Hp} {i:Nat} {ks:List Nat}
def opV:Option Nat->V
 |none=>.non
 |some n=>.int (n:Int)
def plV(l:List (Option Nat)):List V:=l.map opV
theorem sk{l:List (Option Nat)}{o:Option Nat}(h:l[i]?=some o):(plV l)[i]?=some (opV o):=by unfold plV;rw [bE,h];rfl
theorem uG{l:List (Option Nat)}:(plV l).length=l.length:=by unfold plV;rw [zq3]
theorem pR{l:List (Option Nat)}{o:Option Nat}:plV (l++[o])=plV l++[opV o]:=by unfold plV;rw [cg];rfl
def tN(K:W.Frag)(e f:Addr)(H:Hp)(Q:VK):Prop:=∃(ed:FZ.Ed)(pl:List (Option Nat)),SqT K H e (dC ed)/\SqL K H f (plV pl)/\(∀i∈ed.tg,∃n,pl[i]?=some (some n))/\∀e' H',Same H H'->SqT K H' e' (dC (GZ.mT pl ed))->Q (.ref e') H'
def vf(K:W.Frag):Sp:=fun vs H Q _=>∃e f:Addr,vs=[.ref e,.ref f]/\tN K e f H Q
theorem sD{K:W.Frag}{e f:Addr}{Q:VK}{E:XK}:vf K [.ref e,.ref f] H Q E=tN K e f H Q:=propext ⟨by rintro ⟨_,_,e,q⟩;cases e;exact q,fun q=>zAD _ _ rfl q⟩
def NewS(K:W.Frag)(N:Addr->Prop)(H:Hp)(x:V)(b:FZ.Blk):Prop:=∃q a e vs,x=.ref q/\SqT K H q [.ref a,.ref e]/\H a=some (.lst vs)/\Paired (DeedV1 K H) vs b.ds/\SqT K H e (dC b.ed)/\N a
theorem NewS.mv{K:W.Frag}{N M:Addr->Prop}{H':Hp}{x:V}{b:FZ.Blk}(h:NewS K N H x b)(t:TSame H H')(k:∀a vs,N a->H a=some (.lst vs)->H' a=some (.lst vs))(hm:∀a,N a->M a):NewS K M H' x b:=by obtain ⟨q,a,e,vs,ex,h1,h2,h3,h4,h5⟩:=h;exact zAT q a e vs ex (t.seqT h1) (k _ _ h5 h2) (FL.Paired.imp h3 fun y _ d _ z=>z.ts t) (t.seqT h4) (hm _ h5)
def iH(ks:List Nat):List (Key×V):=ks.zipIdx.map fun p=>(.inl (p.1:Int),.int (p.2:Int))
theorem p9(k:Nat):∀(ks:List Nat)(s:Nat),bh ((ks.zipIdx s).map fun p=>((Sum.inl (p.1:Int):Key),V.int (p.2:Int))) (.inl (k:Int))=if k∈ks then some (.int ((s+ks.idxOf k:Nat):Int)) else none
 | [],s=>by rw [zq0 Jll];rfl
 |x::ks,s=>by
  rw [List.zipIdx_cons,ce]
  by_cases e:x=k
  ·rw [bB (by show (Sum.inl (x:Int):Key)=_;rw [e]),zq1 (by rw [e];exact cV ..),e,qS,Nat.add_zero]
  ·rw [bv (by show ¬(Sum.inl (x:Int):Key)=_;intro z;injection z with z;exact e (Int.ofNat.inj z)),p9 k ks (s+1),show (x::ks).idxOf k=ks.idxOf k+1 by rw [List.idxOf_cons,show (x==k)=false by simpa using e];rfl]
   by_cases hk:k∈ks
   ·rw [zq1 hk,zq1 (zq9 _ hk),show s+1+ks.idxOf k=s+(ks.idxOf k+1) by omega]
   ·rw [zq0 hk,zq0 (fun z=>(zq12.mp z).elim (fun z=>e z.symm) hk)]
theorem jP{k:Nat}:bh (iH ks) (.inl (k:Int))=if k∈ks then some (.int (ks.idxOf k:Int)) else none:=by have z:=p9 k ks 0;rw [Bi] at z;exact z
theorem oY:(iH ks).length=ks.length:=by unfold iH;rw [zq3,List.length_zipIdx]
theorem wm{m:Nat}(h:¬m∈ks):bo (iH ks) (.inl (m:Int)) (.int (ks.length:Int))=iH (ks++[m]):=by unfold bo;rw [cI,jP,zq0 h,zq0 Jkm];unfold iH;rw [List.zipIdx_append,cg];simp
def xK(K:W.Frag)(tb:Addr)(H:Hp)(Q:VK):Prop:=∃(F:List FZ.Blk),TabV K H tb F/\GY.Led F/\0<F.length/\F.length<=5000/\(∀b∈F,b.ds.length<=1000)/\
 ∀p f g cs pl N ys H',Same H H'->H f=none->H g=none->SqT K H' p [.ref f,.ref g]->H' g=some (.lst (plV pl))->H' f=some (.lst ys)->Paired (NewS K (fun c=>H c=none/\c≠f) H') ys N->GY.Prt F cs->GY.nxt F cs=cs->GZ.Few F (Rch F) cs pl N->pl[0]?=some (some 0)->Q (.ref p) H'
def Af(K:W.Frag):Sp:=fun vs H Q _=>∃tb:Addr,vs=[.ref tb]/\xK K tb H Q
theorem J8{K:W.Frag}{tb:Addr}{Q:VK}{E:XK}:Af K [.ref tb] H Q E=xK K tb H Q:=propext ⟨by rintro ⟨_,e,q⟩;cases e;exact q,fun q=>zn _ rfl q⟩
def FwI(K:W.Frag)(H0:Hp)(xs:List V)(cs:List Nat)(ws:List Bool)(pn pp pk:Addr)(m:Nat)(pl:List (Option Nat))(H:Hp):Prop:=Same H0 H/\H pn=some (.dK (iH (GX.ksF (GZ.rcl cs ws m))))/\H pp=some (.lst (plV pl))/\∃kp zs,H pk=some (.lst zs)/\GZ.Kpt cs ws m kp/\Paired (fun z (j:Nat)=>xs[j]?=some z) zs kp
theorem mD{ws:List Bool}{b:Bool}(h:ws[i]?=some b):ws.getD i false=b:=by rw [cw,h];rfl
theorem jZ{cs:List Nat}(h:i<cs.length):(nlN cs)[i]?=some (.int (cs.getD i 0:Int)):=by rw [jY (zq6 h),cw,zq6 h];rfl
theorem uj{cs:List Nat}{ws:List Bool}(h:ws.getD 0 false=true):∀m,(GX.ksF (GZ.rcl cs ws (m+1))).head?=some (cs.getD 0 0)
 |0=>by
  rw [GZ.cH,zq1 h,GX.cr];rfl
 |m+1=>by
  have ih:=uj (cs:=cs) h m;rw [GZ.cH]
  split
  ·rw [GX.cr]
   split
   ·exact ih
   ·rw [List.head?_append,ih];rfl
  ·exact ih
theorem zt{cs:List Nat}{ws:List Bool}(h:ws.getD 0 false=true){m:Nat}(hm:0<m):(GZ.pls cs ws m)[0]?=some (some 0):=by
 obtain ⟨m,rfl⟩:∃k,m=k+1:=⟨m-1,Jlk⟩
 unfold GZ.pls;rw [bE,qT hm,tE];unfold GZ.plc;rw [zq1 h];have z:=uj (cs:=cs) h m
 cases e:GX.ksF (GZ.rcl cs ws (m+1)) with
 |nil=>rw [e] at z;cases z
 |cons a l=>
  rw [e] at z
  cases z
  rw [qS]
theorem Cq(T:Txt K mg t):FnOk P w K mg base CX0 1 t.f_102 t.e_102 ["ending","places"] (vf K):=by
 refine T.d_102.F.ok A8 ∅ ?_;rintro cdv A outer s H vs Q E hr ⟨e,f,rfl,ed,pl,he,hf,ht,q⟩;refine ⟨_,
   (XSs.h
   (ai
    (aH (ar aT (ap ay (yqv 0 vl) aj) aC (az _))
     (ak
      (aw (aG (aa aC (aa (ap aN (yqv 1 vl) (ap ay (yqv 0 vl) aj)) ae)))))
     aD)
   (ai
    (aH (ar aT (ap ay (yqv 0 vl) aj) aC (az _))
     (ak
      (aw (aG (aa aC (aa (ap ay (yqv 0 vl) aj) (aa (ap aN (yqv 1 vl) (ap ay (yqv 0 vl) aj)) (aa (ap aN (yqv 1 vl) (ap ay (yqv 0 vl) aj)) ae)))))))
     aD)
   (ak
    (aw (yqv 0 vl)))))),?_⟩
 rw [show aO _ [V.ref e,V.ref f]=[some (.ref e),some (.ref f)] from rfl];rwa []
 cases ed with
 |stop=>
  refine zAE _ _ he rfl rfl (zn _ rfl ?_);rw [zq0 Jkk];refine zAE _ _ he rfl rfl (zn _ rfl ?_);rw [zq0 Jkk];exact q e H (Same.refl H) he
 |go i=>
  obtain ⟨n,hn⟩:=ht i (by simp [FZ.Ed.tg]);refine zAE _ _ he rfl rfl (zn _ rfl ?_);rw [zq1 Jkk];refine zAA _ _ he rfl ?_;rwa [];refine zAA _ _ hf (bq (sk hn)) fun p hp=>q p _ (Same.upd hp) (SqT.of ?_);rw [ac,GZ.mT,cw,hn];rfl
 |choose n i j=>obtain ⟨a,ha⟩:=ht i (by simp [FZ.Ed.tg]);obtain ⟨b,hb⟩:=ht j (by simp [FZ.Ed.tg]);refine zAE _ _ he rfl rfl (zn _ rfl ?_);rw [zq0 Jkk];refine zAE _ _ he rfl rfl (zn _ rfl ?_);rw [zq1 Jkk];refine zAA _ _ he rfl (zAA _ _ he rfl ?_);rwa [];refine zAA _ _ hf (bq (sk ha)) (zAA _ _ he rfl ?_);rwa [];refine zAA _ _ hf (bq (sk hb)) fun p hp=>q p _ (Same.upd hp) (SqT.of ?_);rw [ac,GZ.mT,cw,cw,ha,hb];rfl
theorem Fx(T:Txt K mg t):FnOk P w K mg base CX0 4 t.f_103 t.e_103 ["table"] (Af K):=by
 have G_104:=@Fw P w K mg base t T;have G_108:=@FE P w K mg base t T;have G_102:=@Cq P w K mg base t T;refine T.d_103.F.ok sc_103 ∅ ?_;rintro cdv A outer s H vs Q E hr ⟨tb,rfl,F,hTV,hL,h0,h5,hds,q⟩;have hu:=fi hr;refine ⟨_,
   (XSs.h
   (ai
    (aq (i:=1) sc_103.nd rfl ll (au T.d_104 G_104 hr.m (aa (yqv 0 vl) ae) gl))
   (ai
    (aq (i:=2) sc_103.nd rfl ll (au T.d_108 G_108 hr.m (aa (yqv 0 vl) ae) gl))
   (ai
    (aq (i:=3) sc_103.nd rfl ll g8)
   (ai
    (aq (i:=4) sc_103.nd rfl lc (aJ ae))
   (ai
    (aq (i:=5) sc_103.nd rfl ll (aJ ae))
   (ai
    (br PassesOwn.never rfl (cm gl T.z_range (aa (aL aM gl T.z_len PySem.boot_len (aa (yqv 0 vl) ae)) ae)) (aA (i:=6) sc_103.nd rfl ll)
     (ai
      (aH (iq (d9 (ap aN (yqv 2 vl) (yqv 6 vl))))
       (ai
        (aR (c7 PySem.F.plainAttrs_list PySem.F.slot_list_append PySem.F.type_list_append aZ (yqv 4 vc) (aa cx ae)))
       (ak
        nL))
       aD)
     (c9
      (aH (vz (kH hu (ap aN (yqv 1 vl) (yqv 6 vl)) (yqv 3 vl)))
       (ai
        (dq hu (yqv 3 vl) (ap aN (yqv 1 vl) (yqv 6 vl)) (aL vR gl T.z_len PySem.boot_len (aa (yqv 3 vl) ae)) rfl)
       (ak
        (aR (c7 PySem.F.plainAttrs_list PySem.F.slot_list_append PySem.F.type_list_append aZ (yqv 5 vl) (aa (ap aN (yqv 0 vl) (yqv 6 vl)) ae)))))
       aD)
     (ak
      (aR (c7 PySem.F.plainAttrs_list PySem.F.slot_list_append PySem.F.type_list_append aZ (yqv 4 vc) (aa (cT hu (yqv 3 vl) (ap aN (yqv 1 vl) (yqv 6 vl)) (fun _ _=>rfl)) ae)))))))
   (ak
    (aw (aG (aa (bI (tns:=["state"]) (cns:=["places"]) (ci:=[4]) rfl (CompSc.of Jkl) (aY (yqv 5 vl)) (fun _=>(aA (i:=1) (show List.Nodup [(".0":Str),("state":Str),("places":Str)] by decide +kernel) rfl ll (Or.inr Jkl))) (fun _=>bY) (fun _=>(aG (aa (bA cQ gl T.z_list boot_list (aa (ap ay (yqv 1 vl) aj) ae)) (aa (au T.d_102 G_102 hr.m (aa (ap ay (yqv 1 vl) aj) (aa (yqv 2 vc) ae)) gl) ae))))) (aa (yqv 4 vc) ae)))))))))))),?_⟩
 rw [show aO _ [V.ref tb]=[some (.ref tb),none,none,none,none,none,none] from rfl];simp_arith! [IW];refine zAS F hTV hL h5 hds fun pc cs H1 s1 hpc hec hP hst=>later ?_;simp_arith! [Jl];refine zAS F (hTV.same s1) hL h0 h5 fun pw ws H2 s2 hpw hew hwl hR=>later ?_;simp_arith! [];intro pn hpn;refine later ?_;simp_arith! [];intro pp hpp;refine later ?_;simp_arith! [];intro pk hpk;refine later ?_;simp_arith! [];obtain ⟨xs,hT,hF⟩:=id hTV;have lF:=hF.length;have s12:=s1.trans s2;have t1:=Same.upd (o:=.dK []) hpn;have t2:=Same.upd (o:=.lst []) hpp;have t3:=Same.upd (o:=.lst []) hpk;have s3:=s12.trans ((t1.trans t2).trans t3);have e1:upd (upd (upd H2 pn (.dK [])) pp (.lst [])) pk (.lst []) pn=some (.dK []):=t3 _ _ (t2 _ _ ac);have e2:upd (upd (upd H2 pn (.dK [])) pp (.lst [])) pk (.lst []) pp=some (.lst []):=t3 _ _ ac;have e3:upd (upd (upd H2 pn (.dK [])) pp (.lst [])) pk (.lst []) pk=some (.lst []):=ac;have f1:H2 pn=none:=hpn;have f2:H2 pp=none:=t1.free hpp;have f3:H2 pk=none:=(t1.trans t2).free hpk;have n12:pn≠pp:=am ac hpp;have n13:pn≠pk:=am (t2 _ _ ac) hpk;have n23:pp≠pk:=am ac hpk;have s23:=(t1.trans t2).trans t3;generalize upd (upd (upd H2 pn (.dK [])) pp (.lst [])) pk (.lst [])=H3 at s3 e1 e2 e3 s23 ⊢;clear t1 t2 t3 hpn hpp hpk;have hec2:=s2 _ _ hec;have hT2:=s12 _ _ hT;refine zAG _ (.inl (SqL.of (s3 _ _ hT))) Jlk Jlk ?_;rw [kK,lF];refine dJ (fun i σ H'=>FwI K H2 xs cs ws pn pp pk i (GZ.pls cs ws i) H'/\∃o6,σ=[some (.ref tb),some (.ref pc),some (.ref pw),some (.ref pn),some (.ref pp),some (.ref pk),o6]) ⟨zAF s23 e1 e2 (zAA ([]) ([]) e3 GZ.K1 .nil),_,rfl⟩ ?_ ?_
 ·rintro i σ H4 hi ⟨⟨sm,d1,d2,kp,zs,d3,hK,hZ⟩,o6,rfl⟩;have hwi:ws[i]?=some ws[i]:=zq6 Jlk;have hci:i<cs.length:=by rw [hP.len];exact hi
  simp_arith! [];refine zAA _ _ (SqL.of (sm _ _ hew)) (bq (xU hwi)) (zn _ rfl ?_)
  cases hw:ws[i] with
  |false=>
   rw [zq1 Jkm];have hg:=mD (hwi.trans (congrArg some hw));refine ⟨.inl ⟨rfl,_,SqL.of d2⟩,zAC _ d2 (by rw [uG,zq8];unfold GZ.pls;rw [zq3,eg];omega) (later ?_)⟩;simp_arith! [];refine ⟨zAF (sm.updM f2) ?_ ?_ (zAA kp zs ?_ (GZ.C9 hK hg) hZ),_,rfl⟩
   ·rw [ao n12,GZ.cH,zq0 (by rw [hg];decide)];exact d1
   ·rw [ac,GZ.CI hg,pR];rfl
   ·rw [ao n23.symm];exact d3
  |true=>
   rw [zq0 Jkm];have hg:=mD (hwi.trans (congrArg some hw));refine later ?_;simp_arith! [];refine zn (fun σ H'=>FwI K H2 xs cs ws pn pp pk (i+1) (GZ.pls cs ws i) H'/\σ=[some (.ref tb),some (.ref pc),some (.ref pw),some (.ref pn),some (.ref pp),some (.ref pk),some (.int i)]) ?_ ?_
   ·unfold nC;simp_arith! [];refine zAA _ _ (SqL.of (sm _ _ hec2)) (bq (jZ hci)) (zAA pn _ rfl (DGet.k (k:=.inl (cs.getD i 0:Int)) d1) ?_);rw [jP];have lK:=(GX.fR (GZ.rcl cs ws i)).2.2;have lR:(GZ.rcl cs ws i).length<=i:=by unfold GZ.rcl;rw [zq3];have:=qJ (fun i=>ws.getD i false) (List.range i);rw [eg] at this;exact this
    by_cases hc:cs.getD i 0∈GX.ksF (GZ.rcl cs ws i)
    ·rw [zq1 hc,zq0 (by show ¬(false=true);decide)];obtain ⟨ek,hK'⟩:=GZ.C8 hK hg hc;exact zAF sm (by rw [ek];exact d1) d2 (zAA kp zs d3 hK' hZ)
    ·rw [zq0 hc,zq1 Jkm];obtain ⟨ek,hK'⟩:=GZ.C7 hK hg hc;refine zAA pn _ rfl d1 (zAA _ _ (SqL.of (sm _ _ hec2)) (bq (jZ hci)) (zn _ (DPut.k (k:=.inl (cs.getD i 0:Int)) d1 (by rw [oY,zq8];omega)) (later ?_)));rw [oY,wm hc];have m1:Same H2 (upd H4 pn (.dK (iH (GX.ksF (GZ.rcl cs ws i)++[cs.getD i 0])))):=sm.updM f1;have a1:upd H4 pn (.dK (iH (GX.ksF (GZ.rcl cs ws i)++[cs.getD i 0]))) pn=some (.dK (iH (GX.ksF (GZ.rcl cs ws i)++[cs.getD i 0]))):=ac;have a2:upd H4 pn (.dK (iH (GX.ksF (GZ.rcl cs ws i)++[cs.getD i 0]))) pp=some (.lst (plV (GZ.pls cs ws i))):=by rw [ao n12.symm];exact d2
     have a3:upd H4 pn (.dK (iH (GX.ksF (GZ.rcl cs ws i)++[cs.getD i 0]))) pk=some (.lst zs):=by rw [ao n13.symm];exact d3
     generalize upd H4 pn (.dK (iH (GX.ksF (GZ.rcl cs ws i)++[cs.getD i 0])))=H5 at m1 a1 a2 a3 ⊢;simp_arith! [];have hxi:xs[i]?=some xs[i]:=zq6 Jlk;have lz:zs.length<=i:=by rw [hZ.length,hK.len];omega
     refine ⟨.inl ⟨rfl,_,SqL.of a3⟩,zAA _ _ (SqL.of (m1 _ _ hT2)) (bq hxi) ⟨_,zAQ a3 (by rw [zq8];omega) (m1.updM f3) ?_ ?_ (zAA (kp++[i]) (zs++[xs[i]]) ac hK' (FL.Paired.snoc (F:=fun z (j:Nat)=>xs[j]?=some z) hxi hZ))⟩⟩
     ·rw [ao n13,ek];exact a1
     ·rw [ao n23];exact a2
   rintro σ H5 ⟨⟨sm5,d1,d2,kp,zs,d3,hK,hZ⟩,rfl⟩;refine later ?_;simp_arith! [];have hmem:cs.getD i 0∈GX.ksF (GZ.rcl cs ws (i+1)):=GX.mem_ksF.mpr (GZ.mem_rcl.mpr (zAC i (Bt _) hg rfl));refine ⟨.inl ⟨rfl,_,SqL.of d2⟩,zAA _ _ (SqL.of (sm5 _ _ hec2)) (bq (jZ hci)) (zAA pn (.int ((GX.ksF (GZ.rcl cs ws (i+1))).idxOf (cs.getD i 0):Int)) rfl ?_ (zAG _ d2 (by rw [uG,zq8];unfold GZ.pls;rw [zq3,eg];omega) (zAF (sm5.updM f2) ?_ ?_ (zAA kp zs ?_ hK hZ)) ⟨_,rfl⟩))⟩
   ·have z:=DGet.k (k:=.inl (cs.getD i 0:Int)) d1;rw [jP,zq1 hmem] at z;exact z
   ·rw [ao n12];exact d1
   ·rw [ac,GZ.Gb hg,pR];rfl
   ·rw [ao n23.symm];exact d3
 ·rintro σ H4 ⟨⟨sm,d1,d2,kp,zs,d3,hK,hZ⟩,o6,rfl⟩;dsimp only;refine later ?_;simp_arith! [sD];have hcl:∀(i:Nat)(b:FZ.Blk),Rch F i->F[i]?=some b->∀j∈b.ed.tg,Rch F j:=fun i b r hb j hj=>.step r hb hj;have hFew:=GZ.C2 hP hst hL hwl hR hcl hK;have sA:=s12.trans sm;refine ⟨⟨_,SqL.of d3⟩,fun acc hacc bk=>?_⟩;have lz:=hZ.length;have lk:kp.length<=F.length:=by
   rw [hK.len];have l1:=(GX.fR (GZ.rcl cs ws F.length)).2.2;have l2:(GZ.rcl cs ws F.length).length<=F.length:=by unfold GZ.rcl;rw [zq3];have:=qJ (fun i=>ws.getD i false) (List.range F.length);rw [eg] at this;exact this
   omega
  refine d6 (xs:=zs) (fun i ys H'=>Same H4 H'/\H' acc=some (.lst ys)/\ys.length=i/\Paired (NewS K (fun c=>H4 c=none/\c≠acc) H') ys ((GZ.few F (GZ.pls cs ws F.length) kp).take i)) ?_ ?_ ?_ ?_
  ·exact zAF (Same.upd hacc) ac rfl .nil
  ·intro i ys H' _ h;exact SqL.of (h.1 _ _ d3)
  ·rintro i z ys H5 os hzi ho ⟨s5,hacc5,ly,hA⟩
   match os,ho with
   | [o],_=>
    obtain ⟨j,hj,hxj⟩:=L2.Paired.get hZ hzi;obtain ⟨hjF,hjw,_⟩:=hK.at' i j hj;obtain ⟨b,hb,q0,a0,e0,vs,rfl,hq,ha0,hdv,he⟩:=L2.Paired.get hF hxj;have sB:=sA.trans s5;rwa [sD];refine ⟨zn ([some (.ref q0)]) rfl rfl,?_⟩;rw [zq1 trivial];have hRj:=(hR j).mp (by rw [cw] at hjw;rw [zq6 Jlk] at hjw ⊢;exact congrArg some hjw)
    refine zAA _ _ (sB.seqT hq) rfl (zAA a0 vs rfl (.inl (SqL.of (sB _ _ ha0))) fun l hl=>?_);have t1:=Same.upd (o:=.lst vs) hl;have sC:=sB.trans t1;refine zAA _ _ (sC.seqT hq) rfl ?_;rw [sD];refine zAE b.ed (GZ.pls cs ws F.length) (sC.seqT he) (SqL.of (t1 _ _ (s5 _ _ d2))) (fun u hu=>?_) fun e' H6 s6 he6 p7 hp7=>?_
    ·have hu1:=hL b (bD hb) u hu;obtain ⟨k,c,hk,_⟩:=hFew.to u _ (hcl j b hRj hb u hu) (zq6 hu1);exact ⟨k,hk⟩
    have t7:=Same.upd (o:=.tup [V.ref l,V.ref e']) hp7;have t17:=(t1.trans s6).trans t7;have hac:=t17 _ _ hacc5;have hla:l≠acc:=(am hacc5 hl).symm;have tu:TSame (upd H6 p7 (.tup [V.ref l,V.ref e'])) (upd (upd H6 p7 (.tup [V.ref l,V.ref e'])) acc (.lst (ys++[V.ref p7]))):=TSame.updL hac;have hiz:=(zq11.mp hj).1;refine zAQ hac (by rw [zq8];omega) ((s5.trans t17).updM hacc) ac (by rw [zq7,bV,ly]) ?_;have hzl:i<(GZ.few F (GZ.pls cs ws F.length) kp).length:=by unfold GZ.few;rw [zq3];exact hiz
    have hze:(GZ.few F (GZ.pls cs ws F.length) kp)[i]=⟨b.ds,GZ.mT (GZ.pls cs ws F.length) b.ed⟩:=by
     have z:(GZ.few F (GZ.pls cs ws F.length) kp)[i]?=some ⟨b.ds,GZ.mT (GZ.pls cs ws F.length) b.ed⟩:=by unfold GZ.few;rw [bE,hj,tE,cw,hb];rfl
     exact (zq11.mp z).2
    rw [dy hzl,hze];refine FL.Paired.snoc (F:=NewS K (fun c=>H4 c=none/\c≠acc) (upd (upd H6 p7 (.tup [V.ref l,V.ref e'])) acc (.lst (ys++[V.ref p7])))) (zBA p7 l e' vs rfl (tu.seqT (SqT.of ac)) ?_ ?_ (tu.seqT (t7.seqT he6)) (s5.free hl) hla) (FL.Paired.imp hA fun y _ c _ z=>z.mv (t17.ts.trans tu) (fun a vs ha e=>?_) fun _ h=>h)
    ·rw [ao hla];exact t7 _ _ (s6 _ _ ac)
    ·exact FL.Paired.imp hdv fun y _ d _ z=>((z.ts sB.ts).ts t17.ts).ts tu
    ·rw [ao ha.2];exact t17 _ _ e
  rintro ys H5 ⟨s5,hacc5,ly,hA⟩;rw [lz,show kp.length=(GZ.few F (GZ.pls cs ws F.length) kp).length by unfold GZ.few;rw [zq3],dZ] at hA;have hp0:(GZ.pls cs ws F.length)[0]?=some (some 0):=zt (mD ((hR 0).mpr .zero)) h0;intro p8 hp8;have t8:=Same.upd (o:=.tup [V.ref acc,V.ref pp]) hp8;have s58:=s5.trans t8;have fpp:H pp=none:=s12.free f2;have hpp5:=s5 _ _ d2;exact q p8 acc pp cs _ _ ys _ (sA.trans s58) (sA.free hacc) fpp (SqT.of ac) (t8 _ _ hpp5) (t8 _ _ hacc5) (FL.Paired.imp hA fun y _ c _ z=>z.mv t8.ts (fun a vs _ e=>t8 _ _ e) fun a ha=>⟨sA.free ha.1,ha.2⟩) hP hst hFew hp0
theorem lN:∀{bss:List (List Nat)},(∀b∈bss,b≠[])->bss.length<=bss.flatten.length
 | [],_=>cq _
 |b::r,h=>by have h1:=lN (bss:=r) fun c hc=>h c (zq9 _ hc);have h2:=zq56.mpr (h b (cV ..));rw [Bp,zq7,cW];omega
theorem ur{us:List Int}{b:FZ.Blk}{bs:List (List FB.Deed)}(h:ff us b bs):bs.length<=FZ.wt b/\bs≠[]:=by
 obtain ⟨bss,hg,rfl⟩:=h;refine ⟨?_,lh⟩;have h1:=lN hg.ne;have h2:=hg.perm.length_eq;rw [eg] at h2;have l1:(aU b.ds bss).length=bss.length:=by unfold aU;rw [zq3]
 obtain ⟨ds,ed⟩:=b;dsimp only at h1 h2 l1;unfold eC;dsimp only
 cases ds with
 |nil=>
  have h3:bss.length=0:=by rw [BA] at h2;omega
  have h4:aU [] bss=[]:=zq54.mp (by rw [l1];exact h3);rw [h4];exact zq5 1
 |cons d ds=>
  have hc:(aU (d::ds) bss).isEmpty=false:=by
   cases e:aU (d::ds) bss with
   |nil=>
    rw [e] at l1;have h5:bss=[]:=zq54.mp l1.symm;rw [h5] at h2;simp at h2
   |cons=>rfl
  rw [hc,AZ]
  cases ed with
  |stop=>rw [show jb (aU (d::ds) bss) .stop=false from rfl,zq0 bw];show _<=(d::ds).length;omega
  |go i=>rw [show jb (aU (d::ds) bss) (.go i)=false from rfl,zq0 bw];show _<=(d::ds).length;omega
  |choose n i j=>
   show _<=(d::ds).length+1
   split
   ·rw [zq7,bV];omega
   ·omega
theorem Au{us:List Int}:∀{B:List FZ.Blk} {bbs:List (List (List FB.Deed))},Paired (ff us) B bbs->eK bbs<=FZ.sW B
 |_,_,.nil=>zq5 _
 |_,_,.cons h t=>by have h1:=(ur h).1;have h2:=Au t;unfold eK FZ.sW at *;rw [ce,ce,tG,tG];omega
theorem Df{us:List Int}{ss:List Stm}{bbs:List (List (List FB.Deed))}(h:Paired (ff us) (FZ.b7 ss) bbs):(gK (FZ.b7 ss) bbs).length<=aS ss+2:=by
 have hl:=h.length;have hne:∀bs∈bbs,bs≠[]:=fun bs hb=>by obtain ⟨i,hi⟩:=zq76.mp hb;obtain ⟨b,_,hL⟩:=L2.Paired.getR h hi;exact (ur hL).2
 have h1:=fG hl hne (FZ.b7 ss).length (zq5 _);have h2:=Au h;have h3:=FZ.vP ss;have h4:=jy (bbs:=bbs) (FZ.b7 ss).length;rw [fF hl] at h1;omega
theorem AF{ns:List Str}{wd:Int}{us:List Int}{B:List FZ.Blk}{bbs:List (List (List FB.Deed))}(hG:FZ.jg ns wd B.length B)(hB:0<B.length)(hL:Paired (ff us) B bbs)(up:∀s,s<3->0<=uN us s):
  FZ.jg ns wd (gK B bbs).length (gK B bbs)/\0<(gK B bbs).length/\(gK B bbs).length<=9 * B.length/\∀r∈gK B bbs,bfB us r.ds=true:=by
 have hl:=hL.length;have hb:∀(i:Nat)b bs,B[i]?=some b->bbs[i]?=some bs->ff us b bs/\b.ds.length<=8:=fun i b bs h1 h2=>by
  obtain ⟨bs',h3,h4⟩:=Paired.get hL h1;rw [h2] at h3
  cases h3
  exact ⟨h4,(hG b (bD h1)).len⟩
 have hm:∀bs∈bbs,∃b,ff us b bs/\b.ds.length<=8:=fun bs hbs=>by obtain ⟨i,hi⟩:=zq76.mp hbs;obtain ⟨b,h1,_⟩:=Paired.getR hL hi;exact ⟨b,hb i b bs h1 hi⟩
 have hne:∀bs∈bbs,bs≠[]:=fun bs hbs=>let ⟨b,h1,h2⟩:=hm bs hbs;(dR up h2 h1).1;have len:(gK B bbs).length=eK bbs:=by have z:=fG hl hne B.length (zq5 _);rw [fF hl,hl,dZ] at z;exact z
 have nine:=mm fun bs hbs=>let ⟨b,h1,h2⟩:=hm bs hbs;pz h2 h1;refine zAF ?_ ?_ Jlk ?_
 ·rw [len,<- fF hl];exact AE (us:=us) hl hne hG (fun i b bs h1 h2 l hl2=>by obtain ⟨z1,z2⟩:=hb i b bs h1 h2;exact ((dR up z2 z1).2 l hl2).2) _ (zq5 _)
 ·rw [len];have z:=(lM hne (i:=0) Jlk).2;omega
 ·rw [<- fF hl];exact vt (Z:=fun l=>bfB us l=true) hl hne (fun bs hbs l hl2=>by obtain ⟨b,h1,h2⟩:=hm bs hbs;exact ((dR up h2 h1).2 l hl2).1.bf) _ (zq5 _)
def Ak:Sp:=fun vs H Q _=>∃(op:Str)(x y w:Int),vs=[.str op,.int x,.int y,.int w]/\op∈ops/\0<=w/\w<=8/\∀H',Same H H'->Q (.int (lop op x y w)) H'
theorem Jm{op:Str}{x y w:Int}{H:Hp}{Q:VK}{E:XK}:Ak [.str op,.int x,.int y,.int w] H Q E=(op∈ops/\0<=w/\w<=8/\∀H',Same H H'->Q (.int (lop op x y w)) H'):=propext ⟨by rintro ⟨_,_,_,_,e,q⟩;cases e;exact q,by intro q;exact zAP op x y w rfl q⟩
theorem Same.uu{H:Hp}{p:Addr}{o u:HO}(h:H p=none):Same H (upd (upd H p o) p u):=fun b v e=>by rw [ao (am e h),ao (am e h)];exact e
theorem FH(T:Txt K mg t):FnOk P w K mg base CX0 1 t.f_151 t.e_151 ["_law_op_here","_law_x","_law_y","_law_width"] Ak:=by
 refine T.d_151.F.ok sc_151 ∅ ?_;rintro cdv A outer s H vs Q E hr ⟨op,x,y,w,rfl,ho,h0,h8,q⟩;have hu:=fi hr;refine ⟨_,
   (XSs.h
   (ai
    (aq (i:=4) sc_151.nd rfl ll (av eA aj (yqv 3 vl)))
   (ai
    (aH (ar aT (yqv 0 vl) aC (az _))
     (ak
      (aw (av aP (av bu (yqv 1 vl) (yqv 2 vl)) (yqv 4 vl))))
     aD)
   (ai
    (aH (ar aT (yqv 0 vl) aC (az _))
     (ak
      (aw (av aP (av g9 (yqv 1 vl) (yqv 2 vl)) (yqv 4 vl))))
     aD)
   (ai
    (aH (ar aT (yqv 0 vl) aC (az _))
     (ak
      (aw (bA fM gl T.z_int boot_int (aa (bQ eF (yqv 1 vl) (yqv 2 vl) (az _)) ae))))
     aD)
   (ai
    (aH (ar aT (yqv 0 vl) aC (az _))
     (ak
      (aw (bA fM gl T.z_int boot_int (aa (bQ aT (yqv 1 vl) (yqv 2 vl) (az _)) ae))))
     aD)
   (ai
    (aq (i:=5) sc_151.nd rfl ll aj)
   (ai
    (br PassesOwn.never rfl (cm gl T.z_range (aa (yqv 3 vl) ae)) (aA (i:=6) sc_151.nd rfl ll)
     (ai
      (aq (i:=7) sc_151.nd rfl ll (av aP (av aX (yqv 1 vl) (av eA aj (yqv 6 vl))) aj))
     (ai
      (aq (i:=8) sc_151.nd rfl ll (av aP (av aX (yqv 2 vl) (av eA aj (yqv 6 vl))) aj))
     (ai
      (aq (i:=9) sc_151.nd rfl ll (cT hu (AO (kf (aC).h (av dc (yqv 7 vl) (yqv 8 vl)).h (kf (aC).h (aL (vT rfl) gl T.z_max boot_max (aa (yqv 7 vl) (aa (yqv 8 vl) ae))).h (kf (aC).h (av aP (av bu (yqv 7 vl) (yqv 8 vl)) aj).h CJ))) rfl rfl (by intro z;cases z) Jkm) (yqv 0 vl) (fun _ _=>rfl)))
     (ak
      (aq (i:=5) sc_151.nd rfl ll (av bu (yqv 5 vl) (av dc (yqv 9 vl) (av eA aj (yqv 6 vl))))))))))
   (ak
    (aw (yqv 5 vl))))))))))),?_⟩
 rw [show aO _ [V.str op,V.int x,V.int y,V.int w]=[some (.str op),some (.int x),some (.int y),some (.int w),none,none,none,none,none,none] from rfl];rwa [];unfold lop at q;have hp:(0:Int)<1 * 2 ^ w.toNat:=by rw [nO];exact rc Jkm
 refine ⟨zAB h0 Jlk Jkm,aB (fun e=>?_) (fun e=>?_)⟩
 ·rw [zq1 e] at q;exact ⟨hp,q H (Same.refl H)⟩
 rw [zq0 e] at q;refine aB (fun e'=>?_) (fun e'=>?_)
 ·rw [zq1 e'] at q;exact ⟨hp,q H (Same.refl H)⟩
 rw [zq0 e'] at q;refine aB (fun e=>?_) (fun e=>?_)
 ·rw [zq1 e] at q;exact q H (Same.refl H)
 rw [zq0 e] at q;refine aB (fun e''=>?_) (fun e''=>?_)
 ·rw [zq1 e''] at q;exact q H (Same.refl H)
 rw [zq0 e''] at q;have ho3:op="and"\/op="or"\/op="xor":=by
  have z:op="plus"\/op="less"\/op="and"\/op="or"\/op="xor"\/op="below"\/op="same":=by simpa [FB.opsL] using ho
  rcases z with z | z | z | z | z | z | z
  ·exact absurd z ‹_›
  ·exact absurd z ‹_›
  ·exact .inl z
  ·exact .inr (.inl z)
  ·exact .inr (.inr z)
  ·exact absurd z ‹_›
  ·exact absurd z ‹_›
 refine zAB Jlk Jlk (dJ (fun i σ H'=>Same H H'/\∃b c d e f,σ=[some (.str op),some (.int x),some (.int y),some (.int w),b,some (.int (K01M.bsI (fof op) x y i)),c,d,e,f]) ⟨Same.refl H,zAV _ _ _ _ _ rfl⟩ ?_ ?_)
 ·rintro i σ H2 hi ⟨s2,b,c,d,e,f,rfl⟩;rwa [];have ei:(i:Int).toNat=i:=by omega
  have cp:vK 1 (i:Int):=zAB Jlk Jlk Jkm
  have cd:∀z,CDivB z (1 * 2 ^ (i:Int).toNat):=fun z=>by rw [ei];exact CDivB.pow Jlk
  have l1:∀z:Int,0<=z % 2:=fun z=>eI _ Jkm;have l2:∀z:Int,z % 2<2:=fun z=>gk _ Jkm;have a1:=l1 (x / (1 * 2 ^ (i:Int).toNat));have a2:=l2 (x / (1 * 2 ^ (i:Int).toNat));have a3:=l1 (y / (1 * 2 ^ (i:Int).toNat));have a4:=l2 (y / (1 * 2 ^ (i:Int).toNat));generalize hX:x / (1 * 2 ^ (i:Int).toNat) % 2=X1 at *;generalize hY:y / (1 * 2 ^ (i:Int).toNat) % 2=Y1 at *;refine zAI cp (cd _) cp (cd _) fun p hp=>?_;refine zAB (.inl ⟨Jlk,Jlk⟩) ac (zAC ([(Sum.inr "and",.int (X1 * Y1)),(Sum.inr "or",.int (if Y1>X1 then Y1 else X1)),(Sum.inr "xor",.int ((X1+Y1) % 2))]) rfl (by show 3<=15;decide) ?_);refine zAA p (.int (fof op X1 Y1)) rfl ?_ ?_
  ·have g:=DGet.k (k:=Sum.inr op) (ac (H:=upd H2 p (.dK [])) (a:=p) (o:=.dK (gG [] [((Sum.inr "and":Key),V.int (X1 * Y1)),(Sum.inr "or",.int (if Y1>X1 then Y1 else X1)),(Sum.inr "xor",.int ((X1+Y1) % 2))])));have n10:¬("or":Str)="and":=by decide +kernel
   have n15:¬("xor":Str)="and":=by decide +kernel
   have n16:¬("xor":Str)="or":=by decide +kernel
   rcases ho3 with rfl | rfl | rfl
   ·unfold fof;rw [zq1 rfl];exact g
   ·unfold fof;rw [zq0 n10,zq1 rfl];exact g
   ·unfold fof;rw [zq0 n15,zq0 n16];exact g
  ·rwa [];have hf0:0<=fof op X1 Y1/\fof op X1 Y1<=1:=by
    have z1:X1=0\/X1=1:=by omega
    have z2:Y1=0\/Y1=1:=by omega
    unfold fof;rcases z1 with rfl | rfl<;>rcases z2 with rfl | rfl<;>split<;>(try split)<;>(try split)<;>omega
   have eB:K01M.bsI (fof op) x y (i+1)=K01M.bsI (fof op) x y i+fof op X1 Y1 * (1 * 2 ^ (i:Int).toNat):=by rw [K01M.bsI,<- hX,<- hY,ei,nO]
   rw [eB];exact zAF cp (.inl ⟨Jlk,Jlk⟩) (fun b o eb=>Same.uu hp b o (s2 b o eb)) (zAV _ _ _ _ _ rfl)
 ·rintro σ H2 ⟨s2,b,c,d,e,f,rfl⟩;rwa [];exact q H2 s2
theorem yS(T:Txt K mg t):FnOk P w K mg base CX0 1 t.f_150 t.e_150 ["_law_operand_here","_law_boxes"] (nA K):=by
 refine T.d_150.F.ok HN ∅ ?_;rintro cdv A outer s H vs Q E hr ⟨o,bx,b,ns,w,rfl,hB,hG,ho,q⟩;have hu:=fi hr;refine ⟨_,
   (XSs.h
   (ai
    (aH (d9 (aL jE gl T.z_isinstance boot_isinstance (aa (yqv 0 vl) (aa (kJ (v:=.ty "str") gl T.z_str boot_str rfl) ae))))
     (ak
      (aw (cT hu (yqv 1 vl) (yqv 0 vl) (fun _ _=>rfl))))
     aD)
   (ak
    (aw (yqv 0 vl))))),?_⟩
 rw [show aO _ [o.v,V.ref bx]=[some o.v,some (.ref bx)] from rfl];rwa [];refine mR (zn _ rfl ?_)
 cases o with
 |box n=>exact zAA bx _ rfl (.inl (zAA b (.inr n) (.inl hB) rfl (hG.val ho).symm)) q
 |word i=>exact q
theorem vQ{b:Bx}{m n:Str}{x:Int}:b8 (bo b (.inr m) (.int x)) n=if n=m then x else b8 b n:=by
 unfold b8;rw [FG.il]
 split<;>rfl
variable {ks:List Str} {n:Str}
def dA(l:List Str):List Str:=l.foldl (fun ks n=>if n∈ks then ks else ks++[n]) []
theorem eV{l:List Str}:dA (l++[n])=if n∈dA l then dA l else dA l++[n]:=by unfold dA;rw [nQ];rfl
def bxM(ks:List Str)(f:Str->Int):Bx:=ks.map fun n=>(.inr n,.int (f n))
theorem jq{f:Str->Int}{v:Int}:bo (bxM ks f) (.inr n) (.int v)=bxM (if n∈ks then ks else ks++[n]) (fun m=>if m=n then v else f m):=by
 have ha:((bxM ks f).any fun kv=>decide (kv.1=(Sum.inr n:Key)))=decide (n∈ks):=by
  unfold bxM;rw [Bm,iX,zq100,nP]
  constructor
  ·rintro ⟨m,hm,e⟩;have z:(Sum.inr m:Key)=Sum.inr n:=of_decide_eq_true e
   cases z
   exact hm
  ·exact fun h=>zn n h (cf rfl)
 unfold bo;rw [ha]
 by_cases h:n∈ks
 ·rw [zq1 (cf h),zq1 h];unfold bxM;rw [fJ];refine tF fun m hm=>?_;dsimp only [Function.comp]
  by_cases e:m=n
  ·subst e;rw [zq1 rfl,zq1 rfl]
  ·rw [zq0 (fun z=>e (Sum.inr.inj z)),zq0 e]
 ·rw [zq0 (by simp [h]),zq0 h];unfold bxM;rw [cg,B4];dsimp only;rw [zq1 rfl];congr 1;refine tF fun m hm=>?_;rw [zq0 (fun (e:m=n)=>h (e ▸ hm))]
theorem lS:∀(k:Nat)(l:List Str),l.length=k->(dA l).length<=k
 |0,l,h=>by
  obtain rfl:=zq54.mp h;exact zq5 _
 |k+1,l,h=>by
  obtain ⟨l',x,rfl⟩:∃l' x,l=l'++[x]:=⟨l.dropLast,l.getLast (by intro z;rw [z] at h;simp at h),(xy _).symm⟩
  have:=lS k l' (by rw [zq7,bV] at h;omega);rw [eV]
  split
  ·omega
  ·rw [zq7,bV];omega
theorem jM{ins:List Str}{ws:Bx}:∀(k:Nat)(l:List Str),l.length=k->bj ins ws l=bxM (dA l) fun n=>if n∈ins then b8 ws n else 0
 |0,l,h=>by
  obtain rfl:=zq54.mp h;rfl
 |k+1,l,h=>by
  obtain ⟨l',x,rfl⟩:∃l' x,l=l'++[x]:=⟨l.dropLast,l.getLast (by intro z;rw [z] at h;simp at h),(xy _).symm⟩
  rw [fw,jM k l' (by rw [zq7,bV] at h;omega),jq,eV];congr 1
  funext m
  by_cases e:m=x
  ·subst e;rw [zq1 rfl]
  ·rw [zq0 e]
theorem BN{ins:List Str}{ws:Bx}(h:n∉ins):bo (bxM ks fun m=>if m∈ins then b8 ws m else 0) (.inr n) (.int 0)=bxM (if n∈ks then ks else ks++[n]) fun m=>if m∈ins then b8 ws m else 0:=by
 rw [jq];congr 1
 funext m
 by_cases e:m=n
 ·subst e;rw [zq1 rfl,zq0 h]
 ·rw [zq0 e]
theorem F8{ins:List Str}{ws:Bx}{v:Int}(h:n∈ins):bo (bo (bxM ks fun m=>if m∈ins then b8 ws m else 0) (.inr n) (.int 0)) (.inr n) (.int v)=bxM (if n∈ks then ks else ks++[n]) fun m=>if m∈ins then b8 (bo ws (.inr n) (.int v)) m else 0:=by
 rw [jq,jq];have e0:n∈(if n∈ks then ks else ks++[n]):=by split<;>simp [*]
 rw [zq1 e0];congr 1
 funext m
 rw [vQ]
 by_cases e:m=n
 ·subst e;rw [zq1 rfl,zq1 h,zq1 rfl]
 ·rw [zq0 e,zq0 e,zq0 e]
def kF(F:List FZ.Blk)(w:Int)(x:Option Nat×GA.BT):Option Nat×GA.BT:=match x.1 with
 |none=>x
 |some i=>match F[i]? with
  |none=>x
  |some b=>(GA.nxt x.2.1 b.ed,GO.beat w x.2.1 b.ds x.2)
def tGo(F:List FZ.Blk)(w:Int):Nat->Option Nat×GA.BT->Option Nat×GA.BT
 |0,x=>x
 |n+1,x=>tGo F w n (kF F w x)
theorem sP{F:List FZ.Blk}{w:Int}{s:GA.BT}:kF F w (none,s)=(none,s):=rfl
theorem dX{F:List FZ.Blk}{w:Int}{i:Nat}{s:GA.BT}{b:FZ.Blk}(h:F[i]?=some b):kF F w (some i,s)=(GA.nxt s.1 b.ed,GO.beat w s.1 b.ds s):=by unfold kF;dsimp only;rw [h]
theorem fD{F:List FZ.Blk}{w:Int}:∀{n:Nat} {x:Option Nat×GA.BT},tGo F w (n+1) x=kF F w (tGo F w n x)
 |0,x=>rfl
 |n+1,x=>by rw [tGo,fD (n:=n)];rfl
theorem qA{F:List FZ.Blk}{w:Int}{s:GA.BT}:∀n,tGo F w n (none,s)=(none,s)
 |0=>rfl
 |n+1=>by rw [tGo,sP,qA n]
theorem ij{F:List FZ.Blk}{w:Int}(hF:∀b∈F,∀j∈b.ed.tg,j<F.length):∀(n:Nat){i:Nat} {s:GA.BT},i<F.length->GO.fE F w n i s=((tGo F w n (some i,s)).2,(tGo F w n (some i,s)).1.isNone)
 |0,i,s,_=>rfl
 |n+1,i,s,hi=>by
  have hb:F[i]?=some F[i]:=zq6 hi;rw [GO.mq hb,tGo,dX hb];unfold GO.tR
  cases e:GA.nxt s.1 F[i].ed with
  |none=>rw [qA];rfl
  |some j=>exact ij hF n (hF _ (iz hi) j (ud e))
theorem uy{e f:FZ.Ed}{g:Nat->Nat}{b:Bx}(h:GY.cG e=GY.cG f)(ht:e.tg=f.tg.map g):GA.nxt b e=(GA.nxt b f).map g:=by
 have h1:¬(Str.ofString "go")=Str.ofString "choose":=by decide +kernel
 have h2:¬(Str.ofString "stop")=Str.ofString "choose":=by decide +kernel
 have h3:¬(Str.ofString "stop")=Str.ofString "go":=by decide +kernel
 cases e<;>cases f<;>simp only [GY.cG,W.WData.tuple.injEq,List.cons.injEq,W.WData.str.injEq,and_true,true_and,h1,h2,h3,Ne.symm h1,Ne.symm h2,Ne.symm h3,false_and,and_self,reduceCtorEq,and_false] at h
 ·rfl
 ·simp only [FZ.Ed.tg,List.map_cons,List.map_nil,List.cons.injEq,and_true] at ht;rw [ht];rfl
 ·simp only [FZ.Ed.tg,List.map_cons,List.map_nil,List.cons.injEq,and_true] at ht;rw [ht.1,ht.2,h];unfold GA.nxt;dsimp only
  split<;>rfl
theorem yg{F N:List FZ.Blk}{cs:List Nat}{pl:List (Option Nat)}(h:GZ.Few F (Rch F) cs pl N){i:Nat}(r:Rch F i)(hi:i<F.length):pl[i]?=some (some ((pl.getD i none).getD 0))/\(pl.getD i none).getD 0<N.length:=by obtain ⟨k,c,h1,h2,_⟩:=h.to i _ r (zq6 hi);rw [cw,h1];exact ⟨rfl,(zq11.mp h2).1⟩
theorem rL{F N:List FZ.Blk}{cs:List Nat}{pl:List (Option Nat)}{w:Int}{s:GA.BT}(h:GZ.Few F (Rch F) cs pl N)(hL:GY.Led F)(h0:0<F.length)(hp0:pl[0]?=some (some 0)):∀n,tGo N w n (some 0,s)=((tGo F w n (some 0,s)).1.map fun j=>(pl.getD j none).getD 0,(tGo F w n (some 0,s)).2)/\∀j,(tGo F w n (some 0,s)).1=some j->Rch F j/\j<F.length
 |0=>by
  refine ⟨?_,fun j hj=>by cases hj;exact ⟨.zero,h0⟩⟩;show (some 0,s)=(some ((pl.getD 0 none).getD 0),s);rw [cw,hp0];rfl
 |n+1=>by
  obtain ⟨ih1,ih2⟩:=rL (w:=w) (s:=s) h hL h0 hp0 n;rw [fD,fD,ih1];generalize tGo F w n (some 0,s)=x at ih2 ⊢;obtain ⟨o,u⟩:=x
  cases o with
  |none=>exact ⟨rfl,fun j hj=>by cases hj⟩
  |some i=>
   obtain ⟨ri,hi⟩:=ih2 i rfl;have hb:F[i]?=some F[i]:=zq6 hi;obtain ⟨k,c,e1,e2,e3,e4,e5⟩:=h.to i _ ri hb;have ek:(pl.getD i none).getD 0=k:=by rw [cw,e1];rfl
   dsimp only [Option.map_some];rw [ek,dX e2,dX hb,e3,uy e4 e5];exact ⟨rfl,fun j hj=>⟨.step ri hb (ud hj),hL _ (iz hi) j (ud hj)⟩⟩
theorem oQ{F N:List FZ.Blk}{cs:List Nat}{pl:List (Option Nat)}{ns:List Str}{wd:Int}(h:GZ.Few F (Rch F) cs pl N)(hG:vN ns wd F):vN ns wd N:=by
 have key:∀c∈N,∃(i:Nat)(b:FZ.Blk),Rch F i/\F[i]?=some b/\c.ds=b.ds/\GY.cG c.ed=GY.cG b.ed/\c.ed.tg=b.ed.tg.map fun j=>(pl.getD j none).getD 0:=fun c hc=>by
  obtain ⟨k,hk⟩:=zq76.mp hc;obtain ⟨i,hi,ri,ei⟩:=h.onto k (zq11.mp hk).1;obtain ⟨k',c',h1,h2,h3⟩:=h.to i _ ri (zq6 hi);rw [ei] at h1
  cases h1
  rw [hk] at h2
  cases h2
  exact zAA i _ ri (zq6 hi) h3
 refine ⟨fun c hc=>?_,fun c hc j hj=>?_,?_⟩
 ·obtain ⟨i,b,ri,hb,e1,e2,e3⟩:=key c hc;have hs:=hG.st b (bD hb);refine ⟨by rw [e1];exact hs.gd,fun n x y hc=>?_,by rw [e1];exact hs.len⟩;rw [hc] at e2;have h1:¬(Str.ofString "choose")=Str.ofString "go":=by decide +kernel
  have h2:¬(Str.ofString "choose")=Str.ofString "stop":=by decide +kernel
  cases hbe:b.ed with
  |stop=>rw [hbe] at e2;simp [GY.cG,h2] at e2
  |go i=>rw [hbe] at e2;simp [GY.cG,h1] at e2
  |choose m p q=>rw [hbe] at e2;simp only [GY.cG,W.WData.tuple.injEq,List.cons.injEq,W.WData.str.injEq,and_true,true_and] at e2;rw [e2];exact hs.nm m p q hbe
 ·obtain ⟨i,b,ri,hb,e1,e2,e3⟩:=key c hc;rw [e3] at hj;obtain ⟨x,hx,rfl⟩:=zq36.mp hj;exact (yg h (.step ri hb hx) (hG.tg b (bD hb) x hx)).2
 ·have:=(yg h .zero hG.pos).2;omega
def Cj(b:Bx)(e:FZ.Ed):Int:=match GA.nxt b e with
 |none=>-1
 |some j=>(j:Int)
def o1(K:W.Frag)(q bx td:Addr)(w:Int)(H:Hp)(Q:VK):Prop:=∃(b:FZ.Blk)(bb:Bx)(ns:List Str)(tl:List Int),NewS K (fun c=>c≠td) H (.ref q) b/\StG ns w b/\H bx=some (.dK bb)/\BxG ns w bb/\H td=some (.lst (tl.map V.int))/\tl.length<=100000/\1<=w/\w<=8/\
 ∀H',SameB bx td H H'->H' bx=some (.dK (GO.beat w bb b.ds (bb,tl)).1)->H' td=some (.lst ((GO.beat w bb b.ds (bb,tl)).2.map V.int))->Q (.int (Cj bb b.ed)) H'
def qc(K:W.Frag):Sp:=fun vs H Q _=>∃(q bx td:Addr)(w:Int),vs=[.ref q,.ref bx,.ref td,.int w]/\o1 K q bx td w H Q
theorem nq{K:W.Frag}{q bx td:Addr}{w:Int}{H:Hp}{Q:VK}{E:XK}:qc K [.ref q,.ref bx,.ref td,.int w] H Q E=o1 K q bx td w H Q:=propext ⟨by rintro ⟨_,_,_,_,e,q⟩;cases e;exact q,fun q=>zAP _ _ _ _ rfl q⟩
theorem yP(T:Txt K mg t):FnOk P w K mg base CX0 2 t.f_152 t.e_152 ["_law_state","_law_boxes","_law_told","_law_width"] (qc K):=by
 have G_150:=@yS P w K mg base t T;have G_151:=@FH P w K mg base t T;refine T.d_152.F.ok sc_152 ∅ (fun cdv A outer s H vs Q E hr h=>?_);obtain ⟨qs,bx,td,w,rfl,b,bb,ns,tl,⟨q0,a0,e0,vs,eq0,hq,ha,hdv,he,hna⟩,hst,hB,hG,hT,hl,w1,w8,q⟩:=h
 cases eq0
 have hu:=fi hr;refine ⟨_,
   (XSs.h
   (ai
    (aq (i:=4) sc_152.nd rfl ll (g7 PySem.F.plainAttrs_dict PySem.F.slot_dict_copy PySem.F.type_dict_copy jX (yqv 1 vl)))
   (c9
    (br PassesOwn.never rfl (aY (ap ay (yqv 0 vl) aj)) (aA (i:=5) sc_152.nd rfl ll)
     (ak
      (aH (ar aT (ap ay (yqv 5 vl) aj) aC (az _))
       (ak
        (aR (c7 PySem.F.plainAttrs_list PySem.F.slot_list_append PySem.F.type_list_append aZ (yqv 2 vl) (aa (au T.d_150 G_150 hr.m (aa (ap ay (yqv 5 vl) aj) (aa (yqv 4 vl) ae)) gl) ae))))
       (ak
        (aH (ar aT (ap ay (yqv 5 vl) aj) aC (az _))
         (ak
          (dq hu (yqv 1 vl) (ap ay (yqv 5 vl) aj) (au T.d_150 G_150 hr.m (aa (ap ay (yqv 5 vl) aj) (aa (yqv 4 vl) ae)) gl) rfl))
         (ak
          (dq hu (yqv 1 vl) (ap ay (yqv 5 vl) aj) (au T.d_151 G_151 hr.m (aa (ap ay (yqv 5 vl) aj) (aa (au T.d_150 G_150 hr.m (aa (ap ay (yqv 5 vl) aj) (aa (yqv 4 vl) ae)) gl) (aa (au T.d_150 G_150 hr.m (aa (ap ay (yqv 5 vl) aj) (aa (yqv 4 vl) ae)) gl) (aa (yqv 3 vl) ae)))) gl) rfl)))))))
   (ai
    (aq (i:=6) sc_152.nd rfl ll (ap ay (yqv 0 vl) aj))
   (ai
    (aH (ar aT (ap ay (yqv 6 vl) aj) aC (az _))
     (ak
      (aw (iT gc aj)))
     aD)
   (ai
    (aH (ar aT (ap ay (yqv 6 vl) aj) aC (az _))
     (ak
      (aw (ap ay (yqv 6 vl) aj)))
     aD)
   (ak
    (aw (ap ay (yqv 6 vl) (av bu aj (bA fM gl T.z_int boot_int (aa (bQ aT (cT hu (yqv 4 vl) (ap ay (yqv 6 vl) aj) (fun _ _=>rfl)) aj (az _)) ae)))))))))))),?_⟩
 rw [show aO _ [V.ref qs,V.ref bx,V.ref td,V.int w]=[some (.ref qs),some (.ref bx),some (.ref td),some (.int w),none,none,none] from rfl];simp_arith! [];refine ⟨.inr (.inr (.inl ⟨rfl,.inl ⟨_,hB⟩⟩)),zAE bx bb rfl rfl (.inl hB) fun pb hpb=>later ?_⟩;have t1:=Same.upd (o:=.dK bb) hpb;have eb:upd H pb (.dK bb) pb=some (.dK bb):=ac;generalize upd H pb (.dK bb)=H1 at t1 eb ⊢;have nbt:bx≠td:=bL hB hT (by intro z;cases z);have nbp:bx≠pb:=am hB hpb;have ntp:td≠pb:=am hT hpb;have nab:a0≠bx:=bL ha hB (by intro z;cases z);have lv:=hdv.length;simp_arith! [];refine ⟨fun σ H'=>SameB bx td H1 H'/\H' bx=some (.dK (GO.beat w bb b.ds (bb,tl)).1)/\H' td=some (.lst ((GO.beat w bb b.ds (bb,tl)).2.map V.int))/\∃o5,σ=[some (.ref qs),some (.ref bx),some (.ref td),some (.int w),some (.ref pb),o5,none],zAA _ _ (t1.seqT hq) rfl (zAC a0 rfl ⟨_,SqL.of (t1 _ _ ha)⟩ ?_),?_⟩
 ·refine dD (xs:=vs) (fun i σ H'=>(SameB bx td H1 H'/\H' bx=some (.dK (GO.beat w bb (b.ds.take i) (bb,tl)).1)/\H' td=some (.lst ((GO.beat w bb (b.ds.take i) (bb,tl)).2.map V.int)))/\∃o5,σ=[some (.ref qs),some (.ref bx),some (.ref td),some (.int w),some (.ref pb),o5,none]) ⟨zAB SameB.refl (t1 _ _ hB) (t1 _ _ hT),_,rfl⟩ (fun i σ H' _ h=>SqL.of (h.1.1 _ _ (t1 _ _ ha) nab hna)) ?_ ?_
  ·rintro i x σ H2 hx ⟨⟨s2,hb2,ht2⟩,o5,rfl⟩;obtain ⟨d,hd,qd,rfl,hqd,hfine⟩:=L2.Paired.get hdv hx;have hdm:=bD hd;have hgd:=hst.gd d hdm;rw [GO.iB hd];have hk:=(GO.BxG.beat (w:=w) hG w1 (s:=(bb,tl)) (ds:=b.ds.take i) hG fun x hx=>hst.gd x (qU hx)).1;have hlen:=GO.fm (w:=w) (b0:=bb) (ds:=b.ds.take i) (s:=(bb,tl));generalize GO.beat w bb (b.ds.take i) (bb,tl)=st at hb2 ht2 hk hlen ⊢;have hsl:=hst.len;rw [dw] at hlen;dsimp only at hlen;have tt:TSame H1 H2:=⟨fun c xs e=>s2 c _ e (bL e (t1 _ _ hB) (by intro z;cases z)) (bL e (t1 _ _ hT) (by intro z;cases z)),fun c o u e=>s2 c _ e (bL e (t1 _ _ hB) (by intro z;cases z)) (bL e (t1 _ _ hT) (by intro z;cases z))⟩
   have hq2:=tt.seqT (t1.seqT hqd);have hpb2:=s2 _ _ eb (Ne.symm nbp) (Ne.symm ntp);have few:=hk.few;simp_arith! []
   cases d with
   |tell o=>
    refine zAA _ _ hq2 rfl ?_;rwa [];refine aB (fun _=>⟨.inl ⟨rfl,_,SqL.of ht2⟩,zAA _ _ hq2 rfl ?_⟩) (fun e=>absurd trivial e);rw [ko];refine zAO bb ns w hpb2 hG hgd (zAG _ ht2 (by rw [zq3,zq8];omega) (zAB (s2.trans SameB.upd2) (by rw [ao nbt];exact hb2) ?_) ⟨_,rfl⟩);show upd H2 td _ td=some (.lst (List.map V.int (st.2++[gi bb o])));rw [ac,cg];rfl
   |copy n o=>
    refine zAA _ _ hq2 rfl ?_;rwa [];refine aB (fun e=>absurd e Jkk) (fun _=>zAA _ _ hq2 rfl ?_);rwa [];refine aB (fun _=>zAA _ _ hq2 rfl ?_) (fun e=>absurd trivial e);rw [ko];exact zAO bb ns w hpb2 hG hgd.2 (zAA _ _ hq2 rfl (zAC _ (DPut.k (k:=.inr n) hb2 (by rw [zq8];omega)) (zAB (s2.trans SameB.upd1) ac (by rw [ao nbt.symm];exact ht2)) ⟨_,rfl⟩))
   |op f n o o2=>obtain ⟨g1,g2,g3,g4⟩:f∈FB.opsL/\n∈ns/\Opd.good ns w o/\Opd.good ns w o2:=hgd;have a1:=fT hG g3;have a2:=fT hG g4;refine zAA _ _ hq2 rfl ?_;rwa [];refine aB (fun e=>absurd e (ng hfine Jkk)) (fun _=>zAA _ _ hq2 rfl ?_);rwa [];refine aB (fun e=>absurd e (ng hfine Jkk)) (fun _=>zAA _ _ hq2 rfl (zAA _ _ hq2 rfl ?_));rw [ko];refine zAO bb ns w hpb2 hG g3 (zAA _ _ hq2 rfl ?_);rw [ko];refine zAO bb ns w hpb2 hG g4 ?_;rw [Jm];refine zAF g1 Jlk w8 (fun H3 s3=>zAA _ _ (s3.seqT hq2) rfl (zAC _ (DPut.k (k:=.inr n) (s3 _ _ hb2) (by rw [zq8];omega)) (zAB ((s2.trans (SameB.of s3)).trans SameB.upd1) ?_ (by rw [ao nbt.symm];exact s3 _ _ ht2)) ⟨_,rfl⟩));rw [ac];show _=some (HO.dK (bo st.1 (.inr n) (.int (kS f (gi bb o) (gi bb o2) w))));rw [Ih hfine a1.1 a1.2 a2.1 a2.2]
  ·rintro σ H2 ⟨⟨s2,hb2,ht2⟩,o5,rfl⟩;rw [lv,dZ] at hb2 ht2;exact zAF s2 hb2 ht2 ⟨_,rfl⟩
 rintro σ H2 ⟨s2,hb2,ht2,o5,rfl⟩;have tt:TSame H1 H2:=⟨fun c xs e=>s2 c _ e (bL e (t1 _ _ hB) (by intro z;cases z)) (bL e (t1 _ _ hT) (by intro z;cases z)),fun c o u e=>s2 c _ e (bL e (t1 _ _ hB) (by intro z;cases z)) (bL e (t1 _ _ hT) (by intro z;cases z))⟩
 have he2:=tt.seqT (t1.seqT he);have hpb2:=s2 _ _ eb (Ne.symm nbp) (Ne.symm ntp);have q2:=q H2 ((SameB.of t1).trans s2) hb2 ht2;refine later ?_;simp_arith! [];refine zAA _ _ (tt.seqT (t1.seqT hq)) rfl (later ?_);simp_arith! []
 cases hed:b.ed with
 |stop=>
  rw [hed] at he2 q2;refine zAA _ _ he2 rfl ?_;simp_arith! [];refine aB (fun _=>?_) (fun e=>absurd trivial e);exact q2
 |go j=>
  rw [hed] at he2 q2;refine zAA _ _ he2 rfl ?_;simp_arith! [];refine aB (fun e=>absurd e Jkk) (fun _=>later ?_);simp_arith! [];refine zAA _ _ he2 rfl ?_;simp_arith! [];refine aB (fun _=>?_) (fun e=>absurd trivial e);exact zAA _ _ he2 rfl q2
 |choose n x y=>
  have hn:=hst.nm n x y hed;rw [hed] at he2 q2;refine zAA _ _ he2 rfl ?_;simp_arith! [];refine aB (fun e=>absurd e Jkk) (fun _=>later ?_);simp_arith! [];refine zAA _ _ he2 rfl ?_;simp_arith! [];refine aB (fun e=>absurd e Jkk) (fun _=>later ?_);simp_arith! [];refine zAA _ _ he2 rfl (zAA pb (.int (b8 bb n)) rfl (.inl (zAA bb (.inr n) (.inl hpb2) rfl (hG.val hn).symm)) ?_);rwa [];have e2:Cj bb (.choose n x y)=((if b8 bb n≠0 then x else y:Nat):Int):=rfl;rw [e2] at q2
  by_cases hz:b8 bb n=0
  ·rw [cf hz,zq1 rfl];rw [zq0 (fun z=>z hz)] at q2;exact zAA _ _ he2 rfl q2
  ·rw [bC hz,zq0 Jkm];rw [zq1 hz] at q2;exact zAA _ _ he2 rfl q2
def oh(K:W.Frag)(ta tb bx:Addr)(w m:Int)(H:Hp)(Q:VK):Prop:=∃(F N:List FZ.Blk)(cs:List Nat)(pl:List (Option Nat)) (bb:Bx) (ns:List Str),TabV K H ta F/\TabV K H tb N/\GZ.Few F (Rch F) cs pl N/\pl[0]?=some (some 0)/\vN ns w F/\H bx=some (.dK bb)/\BxG ns w bb/\0<=m/\m<=1000/\1<=w/\w<=8/\
 ∀p td b' H',Same H H'->H td=none->H b'=none->H' p=some (.tup [.ref td,.ref b',.bl (GO.fE F w m.toNat 0 (bb,[])).2])->H' td=some (.lst ((GO.fE F w m.toNat 0 (bb,[])).1.2.map V.int))->H' b'=some (.dK (GO.fE F w m.toNat 0 (bb,[])).1.1)->Q (.ref p) H'
def qf(K:W.Frag):Sp:=fun vs H Q _=>∃(ta tb bx:Addr)(w m:Int),vs=[.ref ta,.ref tb,.ref bx,.int w,.int m]/\oh K ta tb bx w m H Q
theorem D4{K:W.Frag}{ta tb bx:Addr}{w m:Int}{H:Hp}{Q:VK}{E:XK}:qf K [.ref ta,.ref tb,.ref bx,.int w,.int m] H Q E=oh K ta tb bx w m H Q:=propext ⟨by rintro ⟨_,_,_,_,_,e,q⟩;cases e;exact q,fun q=>zAV _ _ _ _ _ ⟨rfl,q⟩⟩
def plI:Option Nat->Int
 |none=>-1
 |some j=>(j:Int)
theorem ux{b:Bx}{e:FZ.Ed}:Cj b e=plI (GA.nxt b e):=by unfold Cj plI;cases GA.nxt b e<;>rfl
structure WkI(H0 H:Hp)(m t:Addr)(x:Option Nat×GA.BT):Prop where
 bx:H m=some (.dK x.2.1)
 td:H t=some (.lst (x.2.2.map V.int))
theorem StV.nw{K:W.Frag}{H:Hp}{x:V}{b:FZ.Blk}{td:Addr}(h:StV K H x b)(H':Hp)(hs:∀c o,H c=some o->H' c=some o)(hn:H td=none):NewS K (fun c=>c≠td) H' x b:=by obtain ⟨q,a,e,vs,ex,h1,h2,h3,h4⟩:=h.same hs;obtain ⟨q0,a0,e0,vs0,ex0,g1,g2,g3,g4⟩:=h;exact zAT q0 a0 e0 vs0 ex0 (Same.seqT hs g1) (hs _ _ g2) (FL.Paired.imp g3 fun y _ d _ z=>z.ts (Same.ts hs)) (Same.seqT hs g4) (am g2 hn)
theorem jz{ns:List Str}{w:Int}{F:List FZ.Blk}(hF:vN ns w F)(w1:1<=w){x:Option Nat×GA.BT}(h:BxG ns w x.2.1):∀n,BxG ns w (tGo F w n x).2.1/\(tGo F w n x).2.2.length<=x.2.2.length+60 * n
 |0=>⟨h,nR _ _⟩
 |n+1=>by
  obtain ⟨i1,i2⟩:=jz hF w1 h n;rw [fD];generalize tGo F w n x=y at i1 i2 ⊢;obtain ⟨o,u⟩:=y
  cases o with
  |none=>exact ⟨i1,by show u.2.length<=_;dsimp only at i2;omega⟩
  |some i=>
   cases hb:F[i]? with
   |none=>
    have e:kF F w (some i,u)=(some i,u):=by unfold kF;dsimp only;rw [hb]
    rw [e];exact ⟨i1,by dsimp only at i2 ⊢;omega⟩
   |some b=>rw [dX hb];have hs:=hF.st b (bD hb);refine ⟨(GO.BxG.beat i1 w1 (s:=u) i1 hs.gd).1,?_⟩;have:=GO.fm (w:=w) (b0:=u.1) (ds:=b.ds) (s:=u);have:=hs.len;dsimp only at i2 ⊢;omega
theorem yR(T:Txt K mg t):FnOk P w K mg base CX0 3 t.f_153 t.e_153 ["_law_one","_law_other","_law_boxes","_law_width","_law_beats"] (qf K):=by
 have G_152:=@yP P w K mg base t T;refine T.d_153.F.ok sc_153 ∅ ?_;rintro cdv A outer s H vs Q E hr ⟨ta,tb,bx,w,m,rfl,F,N,cs,pl,bb,ns,hFV,hNV,hW,hp0,hTG,hB,hG,m0,m1,w1,w8,q⟩;have hTN:=oQ hW hTG;refine ⟨_,
   (XSs.h
   (ai
    (aq (i:=5) sc_153.nd rfl ll (g7 PySem.F.plainAttrs_dict PySem.F.slot_dict_copy PySem.F.type_dict_copy jX (yqv 2 vl)))
   (ai
    (aq (i:=6) sc_153.nd rfl ll (g7 PySem.F.plainAttrs_dict PySem.F.slot_dict_copy PySem.F.type_dict_copy jX (yqv 2 vl)))
   (ai
    (aq (i:=7) sc_153.nd rfl ll (aJ ae))
   (ai
    (aq (i:=8) sc_153.nd rfl ll (aJ ae))
   (ai
    (aq (i:=9) sc_153.nd rfl ll aj)
   (ai
    (aq (i:=10) sc_153.nd rfl ll aj)
   (ai
    (br PassesOwn.never rfl (cm gl T.z_range (aa (yqv 4 vl) ae)) (aA (i:=11) sc_153.nd rfl ll)
     (c9
      (aH (ar AS (yqv 9 vl) aj (az _))
       (ai
        (aq (i:=9) sc_153.nd rfl ll (au T.d_152 G_152 hr.m (aa (ap aN (yqv 0 vl) (yqv 9 vl)) (aa (yqv 5 vl) (aa (yqv 7 vl) (aa (yqv 3 vl) ae)))) gl))
       (ak
        (aq (i:=10) sc_153.nd rfl ll (au T.d_152 G_152 hr.m (aa (ap aN (yqv 1 vl) (yqv 10 vl)) (aa (yqv 6 vl) (aa (yqv 8 vl) (aa (yqv 3 vl) ae)))) gl))))
       aD)
     (ak
      (aH (cE (iU (ar (wO hr.units0) (yqv 5 vl) (yqv 6 vl) (az _)) (iU (ar (zc (n:=0) (oX Jkm hr)) (yqv 7 vl) (yqv 8 vl) (az _)) (ir (ar Dx (bQ eF (yqv 9 vl) aj (az _)) (bQ eF (yqv 10 vl) aj (az _)) (az _))))))
       (ak
        (aw (aG (aa (yqv 7 vl) (aa (yqv 5 vl) (aa cx ae))))))
       aD))))
   (ak
    (aw (aG (aa (yqv 7 vl) (aa (yqv 5 vl) (aa (bQ eF (yqv 9 vl) aj (az _)) ae)))))))))))))),?_⟩
 rw [show aO _ [V.ref ta,V.ref tb,V.ref bx,V.int w,V.int m]=[some (.ref ta),some (.ref tb),some (.ref bx),some (.int w),some (.int m),none,none,none,none,none,none,none] from rfl];simp_arith! [];refine ⟨.inr (.inr (.inl ⟨rfl,.inl ⟨_,hB⟩⟩)),zAE bx bb rfl rfl (.inl hB) fun pm hpm=>later ?_⟩;have t1:=Same.upd (o:=.dK bb) hpm;have e1:upd H pm (.dK bb) pm=some (.dK bb):=ac;generalize upd H pm (.dK bb)=H1 at t1 e1 ⊢;simp_arith! [];have hB1:=t1 _ _ hB;refine ⟨.inr (.inr (.inl ⟨rfl,.inl ⟨_,hB1⟩⟩)),zAE bx bb rfl rfl (.inl hB1) fun pt hpt=>later ?_⟩;have t2:=Same.upd (o:=.dK bb) hpt;have e2:upd H1 pt (.dK bb) pt=some (.dK bb):=ac;generalize upd H1 pt (.dK bb)=H2 at t2 e2 ⊢;simp_arith! [];intro ps hps;have t3:=Same.upd (o:=.lst []) hps;have e3:upd H2 ps (.lst []) ps=some (.lst []):=ac;refine later ?_;generalize upd H2 ps (.lst [])=H3 at t3 e3 ⊢;simp_arith! [];intro ph hph;have t4:=Same.upd (o:=.lst []) hph;have e4:upd H3 ph (.lst []) ph=some (.lst []):=ac;refine later ?_;generalize upd H3 ph (.lst [])=H4 at t4 e4 ⊢;have s2:=t1.trans t2;have s3:=s2.trans t3;have s4:=s3.trans t4;have f1:H pm=none:=hpm;have f2:H pt=none:=t1.free hpt;have f3:H ps=none:=s2.free hps;have f4:H ph=none:=s3.free hph;have n12:pm≠pt:=am e1 hpt;have n13:pm≠ps:=am (t2 _ _ e1) hps;have n14:pm≠ph:=am (t3 _ _ (t2 _ _ e1)) hph;have n23:pt≠ps:=am e2 hps;have n24:pt≠ph:=am (t3 _ _ e2) hph;have n34:ps≠ph:=am e3 hph;have c1:H4 pm=some (.dK bb):=t4 _ _ (t3 _ _ (t2 _ _ e1));have c2:H4 pt=some (.dK bb):=t4 _ _ (t3 _ _ e2);have c3:H4 ps=some (.lst []):=t4 _ _ e3;clear t1 t2 t3 t4 e1 e2 e3 hpm hpt hps hph hB1;simp_arith! [];refine later ?_;simp_arith! [];refine later ?_;simp_arith! [];have hL:GY.Led F:=hTG.tg;have hgo:=rL (w:=w) (s:=(bb,[])) hW hL hTG.pos hp0;refine zAB Jlk Jlk ?_;refine dJ (fun i σ H'=>(Same H H'/\WkI H H' pm ps (tGo F w i (some 0,(bb,[])))/\WkI H H' pt ph (tGo F w i (some 0,(bb,[]))))/\∃o11,σ=[some (.ref ta),some (.ref tb),some (.ref bx),some (.int w),some (.int m),some (.ref pm),some (.ref pt),some (.ref ps),some (.ref ph),some (.int (plI (tGo F w i (some 0,(bb,[]))).1)),some (.int (plI ((tGo F w i (some 0,(bb,[]))).1.map fun j=>(pl.getD j none).getD 0))),o11]) ⟨zAB s4 ⟨c1,c3⟩ ⟨c2,e4⟩,none,?_⟩ ?_ ?_
 ·show _=[some (V.ref ta),some (.ref tb),some (.ref bx),some (.int w),some (.int m),some (.ref pm),some (.ref pt),some (.ref ps),some (.ref ph),some (.int 0),some (.int (((pl.getD 0 none).getD 0:Nat):Int)),none];rw [cw,hp0];rfl
 ·rintro i σ H5 hi ⟨⟨s5,⟨d1,d3⟩,⟨d2,d4⟩⟩,o11,rfl⟩;have hn2:=(hgo i).2;have hal:=jz hTG w1 (x:=(some 0,(bb,[]))) hG i;have hal1:=jz hTG w1 (x:=(some 0,(bb,[]))) hG (i+1);have hsu:=fD (F:=F) (w:=w) (n:=i) (x:=(some 0,(bb,[])));simp_arith! [nq];refine zn (fun σ H'=>(Same H H'/\WkI H H' pm ps (tGo F w (i+1) (some 0,(bb,[])))/\WkI H H' pt ph (tGo F w (i+1) (some 0,(bb,[]))))/\σ=[some (.ref ta),some (.ref tb),some (.ref bx),some (.int w),some (.int m),some (.ref pm),some (.ref pt),some (.ref ps),some (.ref ph),some (.int (plI (tGo F w (i+1) (some 0,(bb,[]))).1)),some (.int (plI ((tGo F w (i+1) (some 0,(bb,[]))).1.map fun j=>(pl.getD j none).getD 0))),some (.int i)]) ?_ ?_
  ·rw [hsu];rw [hsu] at hal1;generalize tGo F w i (some 0,(bb,[]))=y at d1 d2 d3 d4 hn2 hal hal1 ⊢;obtain ⟨o,u⟩:=y;dsimp only at hal hn2;have li:i<=1000:=by omega
   cases o with
   |none=>
    rw [show decide ((0:Int)<=plI ((none,u):Option Nat×GA.BT).1)=false from rfl,zq0 Jkm];exact ⟨zAB s5 ⟨d1,d3⟩ ⟨d2,d4⟩,rfl⟩
   |some j=>
    obtain ⟨rj,hj⟩:=hn2 j rfl;have hbF:F[j]?=some F[j]:=zq6 hj;generalize F[j]=b at hbF;obtain ⟨k,c,g1,g2,g3,g4,g5⟩:=hW.to j b rj hbF;have ek:(pl.getD j none).getD 0=k:=by rw [cw,g1];rfl
    rw [dX hbF,zq1 (cf (by show (0:Int)<=(j:Int);omega))];obtain ⟨xs1,x1,hT1,hx1,hS1⟩:=hFV.at hbF;obtain ⟨xs2,x2,hT2,hx2,hS2⟩:=hNV.at g2;obtain ⟨q1,a1,e1,vs1,rfl,_⟩:=id hS1;obtain ⟨q2,a2,e2,vs2,rfl,_⟩:=id hS2;have hsb:=hTG.st b (bD hbF);have hsc:=hTN.st c (bD g2);refine zAA _ _ (SqL.of (s5 _ _ hT1)) (bq hx1) ?_;rw [nq];refine zBE b u.1 ns u.2 (zAY (hS1.nw H5 s5 f3) hsb d1 hal.1 d3 (by rw [BA] at hal;omega) w1 w8 fun H6 s6 h61 h62=>later ?_);have s06:Same H H6:=fun c o e=>s6 c o (s5 c o e) (am e f1) (am e f3);have d26:=s6 _ _ d2 n12.symm n23;have d46:=s6 _ _ d4 n14.symm n34.symm;simp_arith! [];dsimp only [Option.map_some];rw [ek];refine zAA _ _ (SqL.of (s06 _ _ hT2)) (bq hx2) ?_;rw [nq];refine zBE c u.1 ns u.2 (zAY (hS2.nw H6 s06 f4) hsc d26 hal.1 d46 (by rw [BA] at hal;omega) w1 w8 fun H7 s7 h71 h72=>?_);have s07:Same H H7:=fun c o e=>s7 c o (s06 c o e) (am e f2) (am e f4);rw [g3] at h71 h72;refine ⟨zAB s07 ⟨s7 _ _ h61 n12 n14,s7 _ _ h62 n23.symm n34⟩ ⟨h71,h72⟩,?_⟩;rw [ux,ux,uy g4 g5]
  ·clear hsu hal hn2 d1 d2 d3 d4 s5;rintro σ H6 ⟨⟨s6,⟨d1,d3⟩,⟨d2,d4⟩⟩,rfl⟩;refine later ?_;simp_arith! [];generalize tGo F w (i+1) (some 0,(bb,[]))=y at d1 d2 d3 d4 hal1 ⊢;refine zBA pm pt _ _ rfl rfl (.inl d1) (.inl d2) hal1.1.isI.flat hal1.1.isI.flat (zn _ rfl ?_);rw [hal1.1.isI.self,zq0 Jkm];have hz:=FL.uX (K:=K) (n:=0) (SqL.of d3) (SqL.of d4);rw [cf rfl] at hz;refine zn true hz (zn _ rfl ?_);rw [zq0 Jkm];have e:decide (plI (y.1.map fun j=>(pl.getD j none).getD 0)<0)=decide (plI y.1<0):=by
    cases y.1 with
    |none=>rfl
    |some j=>
     have h1:¬(j:Int)<0:=by omega
     have h2:¬(((pl.getD j none).getD 0:Nat):Int)<0:=by omega
     show decide ((((pl.getD j none).getD 0:Nat):Int)<0)=decide ((j:Int)<0);rw [bC h1,bC h2]
   rw [e];refine ⟨rfl,zn _ rfl ?_⟩;rw [cf rfl,zq0 Jkm];exact ⟨zAB s6 ⟨d1,d3⟩ ⟨d2,d4⟩,_,rfl⟩
 ·rintro σ H5 ⟨⟨s5,⟨d1,d3⟩,⟨d2,d4⟩⟩,o11,rfl⟩;dsimp only;refine later ?_;simp_arith! [];intro p hp;have tp:=Same.upd (o:=HO.tup [V.ref ps,V.ref pm,V.bl (decide (plI (tGo F w m.toNat (some 0,(bb,[]))).1<0))]) hp;have er:=ij (w:=w) hTG.tg m.toNat (s:=(bb,[])) hTG.pos;refine q p ps pm _ (s5.trans tp) f3 f1 ?_ ?_ ?_
  ·rw [ac,er];have e:decide (plI (tGo F w m.toNat (some 0,(bb,[]))).1<0)=(tGo F w m.toNat (some 0,(bb,[]))).1.isNone:=by
    cases (tGo F w m.toNat (some 0,(bb,[]))).1 with
    |none=>rfl
    |some j=>exact bC (by show ¬((j:Int)<0);omega)
   rw [e]
  ·rw [er];exact tp _ _ d3
  ·rw [er];exact tp _ _ d1
theorem GN{C p a0 b0 r0:Addr}{d:Nat}{wd:Int}{H:Hp}{Q:VK}{E:XK}:v8 K C d [.ref p,.int wd,.ref a0,.ref b0,.ref r0] H Q E=tL K C d p a0 b0 r0 wd H Q:=propext ⟨by rintro ⟨_,_,_,_,_,e,q⟩;cases e;exact q,fun q=>zAV _ _ _ _ _ ⟨rfl,q⟩⟩
theorem Fz(T:Txt K mg t)(hw:t.pr=w.params):FnOk P w K mg base CX0 50 t.f_154 t.e_154 ["_law_script"] (sp_law K):=by
 have G_143:=@kc P w K mg base t T;have G_144:=@yT P w K mg base t T;have G_149:=@rX P w K mg base t T;have G_109:=@Cp P w K mg base t T 10;have G_137:=@yZ P w K mg base t T hw 10;have G_103:=@Fx P w K mg base t T;have G_142:=@wK P w K mg base t T;have G_153:=@yR P w K mg base t T;refine T.d_154.F.ok sc_154 ∅ ?_;rintro cdv A outer s H vs Q E hr ⟨a,ns,rfl,hS,hlen,hbits,q⟩;have hu:=fi hr;refine ⟨_,
   (XSs.h
   (ai
    (aq (i:=1) sc_154.nd rfl ll (dO jx (yqv 0 vl) (dm aj) (dm aj)))
   (ai
    (aq (i:=2) sc_154.nd rfl ll aj)
   (c9
    (aH (ar iW (aL aM gl T.z_len PySem.boot_len (aa (yqv 0 vl) ae)) aj (az _))
     (ak
      (aq (i:=2) sc_154.nd rfl ll (ap aN (yqv 0 vl) aj)))
     aD)
   (ai
    (aq (i:=3) sc_154.nd rfl ll (av bu aj (av aP (yqv 2 vl) aj)))
   (ai
    (aq (i:=4) sc_154.nd rfl ll (dO jx (au T.d_144 G_144 hr.m (aa (yqv 2 vl) ae) gl) io (dm (av aP (av aX (yqv 2 vl) aj) aj))))
   (ai
    (aq (i:=5) sc_154.nd rfl ll (dO jx (au T.d_144 G_144 hr.m (aa (yqv 2 vl) ae) gl) (dm aj) (dm (av bu aj (av aP (av aX (yqv 2 vl) aj) aj)))))
   (ai
    (aq (i:=6) sc_154.nd rfl ll (au T.d_149 G_149 hr.m (aa (yqv 1 vl) (aa (av f6 (yqv 4 vl) (yqv 5 vl)) (aa (yqv 3 vl) (aa aj ae)))) gl))
   (c9
    (aH (ar aT (av aP (av aX (yqv 2 vl) aj) aj) aj (az _))
     (ai
      (aq (i:=7) sc_154.nd rfl ll (au T.d_149 G_149 hr.m (aa (yqv 1 vl) (aa (av f6 (yqv 4 vl) (yqv 5 vl)) (aa (yqv 3 vl) (aa aj ae)))) gl))
     (ak
      (aq (i:=6) sc_154.nd rfl ll (av f6 (aJ (aa (aG (aa aC (aa (ap aN (yqv 5 vl) aj) (aa (yqv 7 vl) (aa (yqv 7 vl) ae))))) ae)) (yqv 7 vl)))))
     aD)
   (ai
    (aq (i:=8) sc_154.nd rfl ll (iV T.c_Program T.d_109 G_109 hr.m (aa (yqv 3 vl) (aa (yqv 4 vl) (aa (yqv 5 vl) (aa (yqv 6 vl) ae)))) gl))
   (ai
    (aq (i:=9) sc_154.nd rfl ll (au T.d_137 G_137 hr.m (aa (yqv 8 vl) (aa (aG (aa (av bu aj (av aP (av aX (yqv 2 vl) aj) aj)) (aa (av bu aj (av aP (av aX (yqv 2 vl) aj) aj)) (aa (av bu aj (av aP (av aX (yqv 2 vl) aj) aj)) ae)))) ae)) gl))
   (ai
    (aq (i:=10) sc_154.nd rfl ll (ap ay (au T.d_103 G_103 hr.m (aa (yqv 9 vl) ae) gl) aj))
   (ai
    (aq (i:=11) sc_154.nd rfl ll g8)
   (ai
    (aq (i:=12) sc_154.nd rfl ll g8)
   (c9
    (br PassesOwn.never rfl (kI T.z_enumerate (aa (av f6 (yqv 4 vl) (yqv 5 vl)) ae) gl) (eo rfl (aV (aA (i:=13) sc_154.nd rfl ll) (aV (aA (i:=14) sc_154.nd rfl ll) dk)))
     (ai
      (dq hu (yqv 12 vl) (yqv 14 vl) aj rfl)
     (ak
      (aH (ar dM (yqv 14 vl) (yqv 4 vl) rfl)
       (ai
        (dq hu (yqv 11 vl) (yqv 14 vl) (av aP (au T.d_143 G_143 hr.m (aa (yqv 2 vl) (aa (av bu aj (yqv 13 vl)) ae)) gl) (av eA aj (yqv 3 vl))) rfl)
       (ak
        (dq hu (yqv 12 vl) (yqv 14 vl) (cT hu (yqv 11 vl) (yqv 14 vl) (fun _ _=>rfl)) rfl)))
       aD))))
   (ai
    (aq (i:=15) sc_154.nd rfl ll (av aP (av aX (yqv 2 vl) aj) aj))
   (ai
    (aq (i:=16) sc_154.nd rfl ll (au T.d_153 G_153 hr.m (aa (yqv 9 vl) (aa (yqv 10 vl) (aa (yqv 12 vl) (aa (yqv 3 vl) (aa (yqv 15 vl) ae))))) gl))
   (c9
    (aH (ar se (ap ay (yqv 16 vl) aj) cx (az _))
     (ak
      (aw iS))
     aD)
   (ak
    (aw (nH (bQ (pM (oX (n:=2) Jkm hr)) (au T.d_142 G_142 hr.m (aa (yqv 8 vl) (aa (yqv 9 vl) (aa (yqv 11 vl) (aa (yqv 15 vl) ae)))) gl) (yqv 16 vl) (az _)) (jA (bQ (pM (oX (n:=2) Jkm hr)) (au T.d_142 G_142 hr.m (aa (yqv 8 vl) (aa (yqv 10 vl) (aa (yqv 11 vl) (aa (yqv 15 vl) ae)))) gl) (yqv 16 vl) (az _)))))))))))))))))))))))),?_⟩
 rw [show aO _ [V.ref a]=some (.ref a)::List.replicate 16 none from rfl];simp_arith! [List.replicate_succ,List.replicate_zero];have hcut:gf (ns.map V.int) (some 1) (some 63)=((ns.take 63).drop 1).map V.int:=by rw [oF Jkm Jkm,List.map_drop,Bs];rfl
 refine zn _ hS fun pc hpc=>?_;rw [hcut];have hm2:∀z∈(ns.take 63).drop 1,Builtin.Int.intBits z<=2 ^ 20:=fun z hz=>hbits z (qU (List.mem_of_mem_drop hz));have hl2:((ns.take 63).drop 1).length<=63:=by rw [Bw,dw];omega
 generalize (ns.take 63).drop 1=cs at hm2 hl2 ⊢;have s1:=Same.upd (o:=.lst (cs.map V.int)) hpc;refine later ?_;simp_arith! [];refine later ?_;simp_arith! [];refine ⟨fun σ H'=>H'=upd H pc (.lst (cs.map V.int))/\∃c0:Int,Builtin.Int.intBits c0<=2 ^ 20/\σ=[some (.ref a),some (.ref pc),some (.int c0),none,none,none,none,none,none,none,none,none,none,none,none,none,none],?_,?_⟩
 ·refine zn _ (.inl (s1.seq hS)) (aB (fun h=>?_) (fun h=>?_))
  ·rw [zq3] at h;have h0:(ns.map V.int)[0]?=some (.int ns[0]):=by rw [bE,zq6 Jlk];rfl
   exact zAE _ _ (s1.seq hS) (bq h0) rfl (zn (ns[0]) (hbits _ (iz _)) rfl)
  ·exact ⟨rfl,zn 3 Jkm rfl⟩
 rintro σ H1 ⟨rfl,c0,hb0,rfl⟩;have hcs:upd H pc (.lst (cs.map V.int)) pc=some (.lst (cs.map V.int)):=ac;generalize upd H pc (.lst (cs.map V.int))=H1 at s1 hcs ⊢;refine later ?_;simp_arith! [];have w0:0<=c0 % 4:=eI _ Jkm;have w7:c0 % 4<4:=gk _ Jkm;have k0:0<=c0 / 4 % 4:=eI _ Jkm;have j0:0<=c0 / 16 % 4:=eI _ Jkm;have hl8:(cM c0).length=8:=by
  unfold cM
  split
  ·rfl
  ·unfold nms;simp
 refine later ?_;simp_arith! [uT];refine ⟨hb0,fun p2 H2 s2 hp2 hn2=>⟨CDivB.small Jkm Jkm,zn _ (SqL.of hn2) fun pi hpi=>?_⟩⟩;rw [BW k0,<- Bs];refine later ?_;simp_arith! [uT];refine ⟨hb0,fun p3 H3 s3 hp3 hn3=>⟨CDivB.small Jkm Jkm,zn _ (SqL.of hn3) fun po hpo=>?_⟩⟩;have si:=Same.upd (o:=.lst (((cM c0).take (c0 / 4 % 4).toNat).map V.str)) hpi;have hi3:H3 pi=some (.lst (((cM c0).take (c0 / 4 % 4).toNat).map V.str)):=s3 _ _ ac;have hcutO:gf ((cM c0).map V.str) (some 4) (some (5+c0 / 16 % 4))=(((cM c0).take (5+c0 / 16 % 4).toNat).drop 4).map V.str:=by rw [oF Jkm Jlk,List.map_drop,Bs];rfl
 rw [hcutO];have so:=Same.upd (o:=.lst ((((cM c0).take (5+c0 / 16 % 4).toNat).drop 4).map V.str)) hpo;have li:((cM c0).take (c0 / 4 % 4).toNat).length<=8:=by rw [dw];omega
 have lo:(((cM c0).take (5+c0 / 16 % 4).toNat).drop 4).length<=8:=by rw [Bw,dw];omega
 have lo1:0<(((cM c0).take (5+c0 / 16 % 4).toNat).drop 4).length:=by rw [Bw,dw];omega
 generalize (cM c0).take (c0 / 4 % 4).toNat=ins at *;generalize ((cM c0).take (5+c0 / 16 % 4).toNat).drop 4=oth at *;have ho4:upd H3 po (.lst (oth.map V.str)) po=some (.lst (oth.map V.str)):=ac;have hi4:upd H3 po (.lst (oth.map V.str)) pi=some (.lst (ins.map V.str)):=so _ _ hi3;have s4:Same H (upd H3 po (.lst (oth.map V.str))):=(((s1.trans s2).trans si).trans s3).trans so;have hc4:upd H3 po (.lst (oth.map V.str)) pc=some (.lst (cs.map V.int)):=so _ _ (s3 _ _ (si _ _ (s2 _ _ hcs)));refine later ?_;generalize upd H3 po (.lst (oth.map V.str))=H4 at s4 hc4 hi4 ho4 ⊢;clear so si s3 hi3 hn3 hp3 s2 hpi hpo hn2 hp2 hcut hcutO hl8 hcs s1;simp_arith! [ma];refine zAE _ _ hi4 ho4 (by rw [zq3,zq3,zq8];omega) fun pb hpb=>?_;have sb:=Same.upd (o:=.lst (ins.map V.str++oth.map V.str)) hpb;refine zAH cs (ins++oth) (zAW (SqL.of (sb _ _ hc4)) hl2 hm2 (SqL.of (by rw [ac,cg])) Jlk Jlk fun pr xs f H5 s5 hr5 hst hnd hfr=>?_);have s45:=sb.trans s5;have g5:=jc (cs:=cs) (ns:=ins++oth) (w:=1+c0 % 4) (most:=16) Jkm;generalize dW cs (ins++oth) (1+c0 % 4) 16=ss at hst g5;have hi5:=s45 _ _ hi4;have ho5:=s45 _ _ ho4;have hc5:=s45 _ _ hc4;have sH5:=s4.trans s45;clear s45 s5 sb hc4 hi4 ho4 hpb hnd hfr s4;refine later ?_;simp_arith! [ma];have w1:1<=1+c0 % 4:=by omega
 have w8:1+c0 % 4<=4:=by omega
 obtain ⟨wd,hwd⟩:∃wd,wd=1+c0 % 4:=⟨_,rfl⟩
 rw [<- hwd] at g5 w1 w8 ⊢;have hp2:(2:Int)<=2 ^ wd.toNat:=by
  have:(2:Int) ^ 1<=2 ^ wd.toNat:=by exact_mod_cast vH Jkm Jlk
  exact this
 refine ⟨fun σ H'=>Same H H'/\∃ro o7 xs ss f,H' ro=some (.lst xs)/\StmsV K H' xs ss f/\cX (ins++oth) wd ss/\bF ss<=9/\aS ss<=22/\H' pi=some (.lst (ins.map V.str))/\H' po=some (.lst (oth.map V.str))/\σ=[some (.ref a),some (.ref pc),some (.int c0),some (.int wd),some (.ref pi),some (.ref po),some (.ref ro),o7,none,none,none,none,none,none,none,none,none],⟨CDivB.small Jkm Jkm,aB (fun hh=>?_) (fun hh=>?_)⟩,?_⟩
 ·clear hr5 hst g5 ss xs f;refine zAE _ _ hi5 ho5 (by rw [zq3,zq3,zq8];omega) fun pb hpb=>?_;have sb:=Same.upd (o:=.lst (ins.map V.str++oth.map V.str)) hpb;refine zAH cs (ins++oth) (zAW (SqL.of (sb _ _ hc5)) hl2 hm2 (SqL.of (by rw [ac,cg])) Jlk Jlk fun ph xs f H6 s6 hr6 hst hnd hfr=>later ?_);have s46:=sb.trans s6;have g6:=jc (cs:=cs) (ns:=ins++oth) (w:=wd) (most:=7) Jkm;generalize dW cs (ins++oth) wd 7=ss at hst g6;have hi6:=s46 _ _ hi5;have ho6:=s46 _ _ ho5;have sH6:=sH5.trans s46;clear s46 s6 sb hpb hnd hfr hi5 ho5 hc5 sH5;simp_arith! [];have ho0:oth[0]?=some oth[0]:=zq6 lo1;refine zAA _ _ (SqL.of ho6) (bq (show (oth.map V.str)[0]?=some (.str oth[0]) by rw [bE,ho0];rfl)) ?_;intro d2 hd2;have lx:=hst.length;have lm:=pA ss;have t4:=Same.upd (o:=HO.tup [V.str (Str.ofString "if"),V.str oth[0],V.ref ph,V.ref ph]) hd2;have e4:upd H6 d2 (HO.tup [V.str (Str.ofString "if"),V.str oth[0],V.ref ph,V.ref ph]) d2=some (HO.tup [V.str (Str.ofString "if"),V.str oth[0],V.ref ph,V.ref ph]):=ac;generalize upd H6 d2 (HO.tup [V.str (Str.ofString "if"),V.str oth[0],V.ref ph,V.ref ph])=G4 at t4 e4 ⊢;intro l3 hl3;have t5:=Same.upd (o:=HO.lst [V.ref d2]) hl3;have e5:upd G4 l3 (HO.lst [V.ref d2]) l3=some (HO.lst [V.ref d2]):=ac;generalize upd G4 l3 (HO.lst [V.ref d2])=G5 at t5 e5 ⊢;have t15:=t4.trans t5;refine zAE _ _ e5 (t15 _ _ hr6) (by rw [zq8,bV];omega) fun l4 hl4=>?_;have t6:=Same.upd (o:=HO.lst ([V.ref d2]++xs)) hl4;have e6:upd G5 l4 (HO.lst ([V.ref d2]++xs)) l4=some (HO.lst ([V.ref d2]++xs)):=ac;generalize upd G5 l4 (HO.lst ([V.ref d2]++xs))=G6 at t6 e6 ⊢;have t16:=t15.trans t6;have h16:=hst.same t16;refine ⟨sH6.trans t16,zBH l4 _ _ (.ifs oth[0] ss ss::ss) _ e6 (.cons (.ifs (SqT.of (t5.trans t6 _ _ e4)) (t16 _ _ hr6) (t16 _ _ hr6) h16 h16) h16) ⟨zAB (d5 _ (iz lo1)) g6.1 g6.1,g6.1⟩ ?_ ?_ (t16 _ _ hi6) (t16 _ _ ho6) rfl⟩
  ·rw [bF,Stm.deep];omega
  ·rw [aS,Stm.many];omega
 ·exact ⟨sH5,zBH pr _ xs ss f hr5 hst g5.1 Jlk Jlk hi5 ho5 rfl⟩
 clear hr5 hst g5 ss xs f hi5 ho5 hc5 sH5;rintro σ H5 ⟨sH5,ro,o7,xs,ss,f,hr5,hst,g5,dp,mn,hi5,ho5,rfl⟩;refine later ?_;simp_arith! [];intro pp dx hpp hdx hne;simp_arith! [GN];have s6:Same H5 (upd (upd H5 dx (.own pp)) pp (.ins t.C_Program dx [])):=(Same.upd hdx).updM hpp;refine zBG dx ins oth xs ss f (zBN ac (s6 _ _ hi5) (s6 _ _ ho5) (s6 _ _ hr5) (hst.same s6) Jlk Jlk Jlk Jlk fun a' b' r' ys g H7 sx hP _ _=>⟨rfl,?_⟩);have s7:Same H5 H7:=fun c' o' e=>sx c' o' (s6 _ _ e) (am e hpp);have sH7:=sH5.trans s7;have hi7:=s7 _ _ hi5;have ho7:=s7 _ _ ho5;clear s7 sx s6 hi5 ho5 hr5 hst hpp hdx sH5 hne;refine later ?_;simp_arith! [];refine zAF (CDivB.small Jkm Jkm) (CDivB.small Jkm Jkm) (CDivB.small Jkm Jkm) fun ut hut=>?_;have u0:∀z∈[1+c0 / 128 % 3,1+c0 / 384 % 3,1+c0 / 1152 % 3],(0:Int)<z/\z<=3:=fun z hz=>by simp only [List.mem_cons,List.not_mem_nil,or_false] at hz;rcases hz with rfl | rfl | rfl<;>omega
 have tu:=Same.upd (o:=.tup [V.int (1+c0 / 128 % 3),V.int (1+c0 / 384 % 3),V.int (1+c0 / 1152 % 3)]) hut;have eu:upd H7 ut (.tup [V.int (1+c0 / 128 % 3),V.int (1+c0 / 384 % 3),V.int (1+c0 / 1152 % 3)]) ut=some (.tup ([1+c0 / 128 % 3,1+c0 / 384 % 3,1+c0 / 1152 % 3].map V.int)):=ac;have lu:[1+c0 / 128 % 3,1+c0 / 384 % 3,1+c0 / 1152 % 3].length=3:=rfl;generalize upd H7 ut (.tup [V.int (1+c0 / 128 % 3),V.int (1+c0 / 384 % 3),V.int (1+c0 / 1152 % 3)])=H6 at tu eu ⊢;generalize [1+c0 / 128 % 3,1+c0 / 384 % 3,1+c0 / 1152 % 3]=us at u0 eu lu;rw [D6];refine ⟨wd,ins,oth,ss,a',b',r',ys,g,us,ins++oth,hP.same tu,Jlk,Jlk,g5,SqT.of eu,lu,u0,fun tb ts bbs H8 s8 htb0 htb hL hts=>later ?_⟩;have up:∀s,s<3->0<=uN us s:=fun s hs=>Br (nG lu u0 s hs);have lB:=FZ.gN ss;have hG:=FZ.jD g5;have hfew:=Df hL;obtain ⟨g1',g2',g3',g4'⟩:=AF hG lB.2 hL up;have tab:TabV K H8 tb (gK (FZ.b7 ss) bbs):=zn ts htb (FL.Paired.imp hts fun x _ b _ z=>by obtain ⟨qb,ab,eb,vs,e,v1,v2,v3,v4,v5⟩:=z;exact zAM qb ab eb vs e (SqT.of v1) v2 v3 (SqT.of v4))
 have tg:vN (ins++oth) wd (gK (FZ.b7 ss) bbs):=⟨fun b hb=>⟨(g1' b hb).gd,(g1' b hb).nm,by have:=(g1' b hb).len;omega⟩,fun b hb=>(g1' b hb).tg,g2'⟩
 have hds8:∀b∈gK (FZ.b7 ss) bbs,b.ds.length<=8:=fun b hb=>(g1' b hb).len;have hF64:(gK (FZ.b7 ss) bbs).length<64:=by omega
 generalize gK (FZ.b7 ss) bbs=F at tab tg hds8 hF64;have s78:=tu.trans s8;clear g1' g2' g3' g4' hfew hG lB up hL hts eu s8 htb0 tu hut;simp_arith! [J8];refine ⟨F,zAQ tab tg.tg tg.pos Jlk (fun b hb=>by have:=hds8 b hb;omega) fun pt pf pg cls pl N zs H10 s10 hpf hpg hpt hge hfe hNe hPrt hnx hFew hp0=>?_⟩;have hNV10:TabV K H10 pf N:=zn zs hfe (FL.Paired.imp hNe fun x _ b _ z=>by obtain ⟨q,a,e,vs,ex,h1,h2,h3,h4,h5⟩:=z;exact zAM q a e vs ex h1 h2 h3 h4)
 simp_arith! [];refine zAA _ _ hpt rfl (later ?_);have s710:=s78.trans s10;have tab10:=tab.same s10;have hTN:=oQ hFew tg;have hi10:=s710 _ _ hi7;have ho10:=s710 _ _ ho7;clear hNe hpf hpg hpt hge hfe s10 tab htb s78;simp_arith! [];intro pw hpw;have t8:=Same.upd (o:=.dK []) hpw;have ew:upd H10 pw (.dK []) pw=some (.dK []):=ac;refine later ?_;generalize upd H10 pw (.dK [])=G8 at t8 ew ⊢;simp_arith! [];intro px hpx;have t9:=Same.upd (o:=.dK []) hpx;have ex:upd G8 px (.dK []) px=some (.dK []):=ac;have ew9:=t9 _ _ ew;have npx:pw≠px:=am ew hpx;have hpx7:=t8.free hpx;have s79:=t8.trans t9;refine later ?_;generalize upd G8 px (.dK [])=G9 at t9 ex ew9 s79 ⊢;simp_arith! [];have hp21:(0:Int)<1 * 2 ^ wd.toNat:=by rw [nO];exact rc Jkm
 refine ⟨fun σ H'=>(Same H10 H'/\∃ws:Bx,H' pw=some (.dK ws)/\H' px=some (.dK (bj ins ws (ins++oth)))/\IntD ws/\∀n∈ins,∃x,kG ws n=some x/\0<=x/\x<2 ^ wd.toNat)/\∃o10 o11,σ=[some (.ref a),some (.ref pc),some (.int c0),some (.int wd),some (.ref pi),some (.ref po),some (.ref ro),o7,some (.ref pp),some (.ref tb),some (.ref pf),some (.ref pw),some (.ref px),o10,o11,none,none],zAE _ _ (s79 _ _ hi10) (s79 _ _ ho10) (by rw [zq3,zq3,zq8];omega) fun pb hpb=>⟨⟨_,SqL.of ac⟩,?_⟩,?_⟩
 ·rw [<- cg];have tbb:=Same.upd (o:=.lst ((ins++oth).map V.str)) hpb;have hpl:upd G9 pb (.lst ((ins++oth).map V.str)) pb=some (.lst ((ins++oth).map V.str)):=ac;generalize upd G9 pb (.lst ((ins++oth).map V.str))=G10 at tbb hpl ⊢;refine mM (xs:=(ins++oth).map V.str) (fun i σ H'=>(Same H10 H'/\H' pb=some (.lst ((ins++oth).map V.str))/\∃ws:Bx,H' pw=some (.dK ws)/\H' px=some (.dK (bxM (dA ((ins++oth).take i)) fun m=>if m∈ins then b8 ws m else 0))/\ws.length<=i/\IntD ws/\∀n∈ins,n∈(ins++oth).take i->∃x,kG ws n=some x/\0<=x/\x<2 ^ wd.toNat)/\∃o10 o11,σ=[some (.ref a),some (.ref pc),some (.int c0),some (.int wd),some (.ref pi),some (.ref po),some (.ref ro),o7,some (.ref pp),some (.ref tb),some (.ref pf),some (.ref pw),some (.ref px),o10,o11,none,none])
   ⟨zAB (s79.trans tbb) hpl (zAS ([]) (tbb _ _ ew9) (tbb _ _ ex) (zq5 _) IntD.nil (fun n _ hn=>by simp at hn)),zAH _ _ rfl⟩ (fun i σ H' _ h=>SqL.of h.1.2.1) ?_ ?_
  ·rintro i x σ H' pq hx hpq ⟨⟨sm,hl,ws,hws,hbx,lws,hI,hin⟩,o10,o11,rfl⟩;rw [bE] at hx;obtain ⟨n,hn,rfl⟩:=zq42.mp hx;obtain ⟨hi,hne⟩:=zq11.mp hn;have etk:(ins++oth).take (i+1)=(ins++oth).take i++[n]:=by rw [dy hi,hne]
   have lal:(ins++oth).length<=16:=by rw [zq7];omega
   have lbx:(bxM (dA ((ins++oth).take i)) fun m=>if m∈ins then b8 ws m else 0).length<=16:=by unfold bxM;rw [zq3];have:=lS _ ((ins++oth).take i) rfl;rw [dw] at this;omega
   simp_arith! [];refine zAC _ (SqT.of ac) rfl ?_;have sq:=Same.upd (o:=.tup [V.int i,V.str n]) hpq;have hws1:=sq _ _ hws;have hbx1:=sq _ _ hbx;have hl1:=sq _ _ hl;have sm1:=sm.trans sq;generalize upd H' pq (.tup [V.int i,V.str n])=G11 at sq hws1 hbx1 hl1 sm1 ⊢;simp_arith! [];refine zn _ (DPut.k (k:=.inr n) hbx1 (by rw [zq8];omega)) ?_;refine later ?_;have sm2:=sm1.updM (o:=.dK (bo (bxM (dA ((ins++oth).take i)) fun m=>if m∈ins then b8 ws m else 0) (.inr n) (.int 0))) hpx7;have hbx2:upd G11 px (.dK (bo (bxM (dA ((ins++oth).take i)) fun m=>if m∈ins then b8 ws m else 0) (.inr n) (.int 0))) px=some (.dK (bo (bxM (dA ((ins++oth).take i)) fun m=>if m∈ins then b8 ws m else 0) (.inr n) (.int 0))):=ac;have hws2:upd G11 px (.dK (bo (bxM (dA ((ins++oth).take i)) fun m=>if m∈ins then b8 ws m else 0) (.inr n) (.int 0))) pw=some (.dK ws):=by rw [ao npx];exact hws1
   have hl2':upd G11 px (.dK (bo (bxM (dA ((ins++oth).take i)) fun m=>if m∈ins then b8 ws m else 0) (.inr n) (.int 0))) pb=some (.lst ((ins++oth).map V.str)):=by rw [ao (bL hl1 hbx1 (by intro z;cases z))];exact hl1
   generalize upd G11 px (.dK (bo (bxM (dA ((ins++oth).take i)) fun m=>if m∈ins then b8 ws m else 0) (.inr n) (.int 0)))=G12 at sm2 hbx2 hws2 hl2' ⊢;simp_arith! [];refine zAG _ (.inl (SqL.of (sm2 _ _ hi10))) rfl (by rw [List.all_map];exact zq44.mpr fun _ _=>rfl) ?_;rw [gT];refine aB (fun hni=>?_) (fun hni=>?_)
   ·simp_arith! [i7];refine zAQ hb0 Jlk Jlk (zAB Jlk Jlk Jkm) hp21 (zn _ (DPut.k (k:=.inr n) hws2 (by rw [zq8];omega)) ?_);refine later ?_;have hv0:=eI (cY c0 (60+↑i)) (show (1 * 2 ^ wd.toNat:Int)≠0 by omega);have hv1:=gk (cY c0 (60+↑i)) hp21;generalize cY c0 (60+↑i) % (1 * 2 ^ wd.toNat)=v at hv0 hv1 ⊢;rw [nO] at hv1;have sm3:=sm2.updM (o:=.dK (bo ws (.inr n) (.int v))) hpw;have hws3:upd G12 pw (.dK (bo ws (.inr n) (.int v))) pw=some (.dK (bo ws (.inr n) (.int v))):=ac;have hbx3:=(ao (H:=G12) (o:=.dK (bo ws (.inr n) (.int v))) npx.symm).trans hbx2;have hl3:=(ao (H:=G12) (o:=.dK (bo ws (.inr n) (.int v))) (bL hl2' hws2 (by intro z;cases z))).trans hl2';generalize upd G12 pw (.dK (bo ws (.inr n) (.int v)))=G13 at sm3 hws3 hbx3 hl3 ⊢;rwa [];have lb2:=cO (bxM (dA ((ins++oth).take i)) fun m=>if m∈ins then b8 ws m else 0) (.inr n) (.int 0);have lw2:=cO ws (.inr n) (.int v);refine zAA pw (.int v) rfl (by have z:=DGet.k (k:=.inr n) hws3;rw [qF,zq1 rfl] at z;exact z) (zAC _ (DPut.k (k:=.inr n) hbx3 (by rw [zq8];omega)) (zAB (sm3.updM hpx7) ?_ (zAS (bo ws (.inr n) (.int v)) ?_ ?_ Jlk (hI.put _ _) fun n' h1 h2=>?_)) (zAH _ _ rfl))
    ·rw [ao (bL hl3 hbx3 (by intro z;cases z))];exact hl3
    ·rw [ao npx];exact hws3
    ·rw [ac,F8 hni,etk,eV]
    ·rw [il]
     by_cases e:n'=n
     ·rw [zq1 e];exact zAC v rfl hv0 hv1
     ·rw [zq0 e];rw [etk] at h2;rcases zq18.mp h2 with z | z
      ·exact hin n' h1 z
      ·exact absurd (zq10.mp z) e
   ·refine ⟨zAB sm2 hl2' (zAS ws hws2 (by rw [hbx2,BN hni,etk,eV]) Jlk hI fun n' h1 h2=>?_),zAH _ _ rfl⟩;rw [etk] at h2;rcases zq18.mp h2 with z | z
    ·exact hin n' h1 z
    ·rw [zq10.mp z] at h1;exact absurd h1 hni
  ·rintro σ H' ⟨⟨sm,hl,ws,hws,hbx,lws,hI,hin⟩,o10,o11,rfl⟩;rw [zq3,dZ] at hbx hin;exact ⟨⟨sm,zAG ws hws (by rw [hbx,jM _ _ rfl]) hI fun n hn=>hin n hn (iu _ hn)⟩,zAH _ _ rfl⟩
 rintro σ H11 ⟨⟨s11,ws,hws,hbx,hI,hin⟩,o10,o11,rfl⟩;clear s79 t9 t8 ew ew9 ex;refine later ?_;simp_arith! [];have m0:0<=c0 / 3456 % 61:=eI _ Jkm;have m1:c0 / 3456 % 61<61:=gk _ Jkm;refine ⟨CDivB.small Jkm Jkm,later ?_⟩;generalize c0 / 3456 % 61=m at m0 m1 ⊢;have lal:(ins++oth).length<=16:=by rw [zq7];omega
 have hb0:BxG (ins++oth) wd (bj ins ws (ins++oth)):=j7 (WordsIn.get ⟨.inl hws,hin⟩) Jlk;have esame:GO.fE N wd m.toNat 0 (bj ins ws (ins++oth),[])=GO.fE F wd m.toNat 0 (bj ins ws (ins++oth),[]):=by
  rw [ij hTN.tg _ hTN.pos,ij tg.tg _ tg.pos,(rL hFew tg.tg tg.pos hp0 m.toNat).1]
  cases (tGo F wd m.toNat (some 0,(bj ins ws (ins++oth),[]))).1<;>rfl
 have hbe:BxG (ins++oth) wd (GO.fE F wd m.toNat 0 (bj ins ws (ins++oth),[])).1.1:=by rw [ij tg.tg _ tg.pos];exact (jz tg w1 (x:=(some 0,(bj ins ws (ins++oth),[]))) hb0 m.toNat).1
 simp_arith! [D4];refine zBG F N cls pl (bj ins ws (ins++oth)) (ins++oth) (zBO (tab10.same s11) (hNV10.same s11) hFew hp0 tg hbx hb0 m0 Jlk w1 Jlk fun p12 td b12 H12 s12 htd0 hb120 hp12 htd hb12=>later ?_);generalize hR:GO.fE F wd m.toNat 0 (bj ins ws (ins++oth),[])=R at hp12 htd hb12 hbe esame;simp_arith! [];refine zn (fun σ H'=>H'=H12/\σ=[some (.ref a),some (.ref pc),some (.int c0),some (.int wd),some (.ref pi),some (.ref po),some (.ref ro),o7,some (.ref pp),some (.ref tb),some (.ref pf),some (.ref pw),some (.ref px),o10,o11,some (.int m),some (.ref p12)]) ?_ ?_
 ·refine zAA _ _ (SqT.of hp12) rfl ?_;rw [bC (by intro z;cases z),zq0 Jkm];exact ⟨rfl,rfl⟩
 rintro σ H13 ⟨rfl,rfl⟩;refine later ?_;simp_arith! [zT];have s712:=(s710.trans s11).trans s12;refine ⟨wd,ins,oth,ss,a',b',r',ys,g,ws,F,hP.same s712,⟨.inl (s12 _ _ hws),hin⟩,w1,Jlk,Jlk,(tab10.same s11).same s12,tg,Jlk,fun p14 td14 b14 H14 s14 f1 f2 x1 x2 x3=>?_⟩;rw [hR] at x1 x2 x3;refine zBC p14 p12 td14 b14 td b12 R.2 R.1.2 R.1.1 (zBK rfl rfl (SqT.of x1) (SqT.of (s14 _ _ hp12)) (am htd f1).symm (am hb12 f2).symm (SqL.of x2) (SqL.of (s14 _ _ htd)) (.inl x3) (.inl (s14 _ _ hb12)) hbe.isI.flat hbe.isI.self ?_);refine zn _ rfl ?_;rw [zq1 rfl];refine ⟨wd,ins,oth,ss,a',b',r',ys,g,ws,N,hP.same (s712.trans s14),⟨.inl (s14 _ _ (s12 _ _ hws)),hin⟩,w1,Jlk,Jlk,((hNV10.same s11).same s12).same s14,hTN,Jlk,fun p15 td15 b15 H15 s15 f3 f4 y1 y2 y3=>?_⟩;rw [esame] at y1 y2 y3;have s145:=s14.trans s15;exact zBC p15 p12 td15 b15 td b12 R.2 R.1.2 R.1.1 (zBK rfl rfl (SqT.of y1) (SqT.of (s145 _ _ hp12)) (am (s14 _ _ htd) f3).symm (am (s14 _ _ hb12) f4).symm (SqL.of y2) (SqL.of (s145 _ _ htd)) (.inl y3) (.inl (s145 _ _ hb12)) hbe.isI.flat hbe.isI.self (q _))
theorem wA(T:Txt K mg t):∀(s:Shared)(u:Value),BindsTo s t.e_154 ⟨[u],[]⟩ [("_law_script",u)]:=by obtain ⟨oc,od,kV,doc,pm,an,cdv,ct,osl,e,_,_⟩:=T.d_154.F.ex;intro s u;rw [e];exact .of_eq rfl
end
theorem Ks{l:W.OpenLaw}{q:Program}{loose:List Str}{XP:(Str->Option Value)->Heap->Prop}{YP:World->Heap->Prop}{d:DefRec}{K:Params->W.Frag}(hn:l.most=some 63)(hdf:d.params.defaults=[])(hd:d.name="law")
  (hY:∀(w:World)(h:Heap),YP w h->(K w.params).In h)
  (F:∀(w:World)(mg:Str->Option Value)(h:Heap),(K w.params).In h->h.Ns mainGlobals mg->∃t,Txt (K w.params) mg t/\t.pr=w.params) :
  W.WalkO q loose XP YP l.row.toRowW d [] (fun f vs=>PySem.call f vs):=by
 refine L2.AK (n:=63) (k:=100) (x:="_law_script") (CX:=fun _=>CX0) (sp:=fun w=>sp_law (K w.params)) hn Jkm hdf ⟨rfl,Jkm,Jkm⟩ hY (fun w mg fa h KX G hmg=>?_) (fun _ _ a ns hl hb _ hS=>zAR a ns rfl hS hl hb fun _=>rfl) fun _ _ _ _ _ z=>z;obtain ⟨t,T,hw⟩:=F w mg h KX G;rw [hd] at hmg;have e0:=hmg.symm.trans T.d_154.M
 cases e0
 exact zn t.e_154 (wA T) (fun base _ _=>(Fz T hw).mono Jkm)
end K81
set_option maxHeartbeats 4000000
local macro_rules | `(tactic| simp_arith [$ts,*])=>`(tactic| ((try dsimp only); k_is))
local macro_rules | `(∅)=>`(by simp_arith [])
namespace PySem.W.Fast
def tw2709272113200799936:=0
def tw9655750723122730031:=0
def tw17738743624742172485:=0
def tw4325921261390625523:=0
def tw10403256227640968006:=0
def tw3301863979249521743:=0
def tw14200713317720332443:=0
def tw9647905483471103025:=0
def tw13107353506373439281:=0
def tw8878826712069051739:=0
def tw12318258052588613851:=0
def tw15956220975436687883:=0
def tw2440048815748046761:=0
def tw8833483661286111435:=0
def tw9569075460014904233:=0
def tw9154479777658785254:=0
def tw15050458788052504168:=0
def tw4697975741765830672:=0
def tw14792261715000807631:=0
def tw8616175713948221941:=0
def tw14341753361705636312:=0
def tw12885118450712784012:=0
def tw3376369513302933168:=0
def tw7975443652316944151:=0
def tw17804080187079722965:=0
def tw9479066868560937536:=0
def tw13096027419497166752:=0
def tw15244153003181464073:=0
def tw11565548879328364137:=0
def tw8359505193603228388:=0
def tw1279332630182319565:=0
def tw8437022541321144154:=0
def tw5691068867656992956:=0
def tw16308172637959076686:=0
def tw15510481898539068048:=0
def tw3066262186052132893:=0
def tw2091618066428082937:=0
def tw9656544172553275304:=0
def tw11913355573054333101:=0
def tw16519929673961298587:=0
def tw8037883839636031783:=0
def tw18100019051354868863:=0
def tw13084170275187661987:=0
def tw13735710618741392928:=0
def tw4610935666861013540:=0
def tw8925107422061586915:=0
def tw4778189494782311304:=0
def tw12199033071075177076:=0
def tw6709146434661338185:=0
def tw13158310310781947266:=0
def tw5276245442681936020:=0
def tw13487665444502619948:=0
def tw10939863423903964132:=0
def tw15437676355919635440:=0
def tw8542583661161776846:=0
def tw1237342336737040376:=0
def tw2773980192419075700:=0
def tw2120985335682007095:=0
def tw5113231732613962740:=0
def tw9453944267220959800:=0
def tw2397994000758130781:=0
def tw16202181151416133402:=0
def tw9189879448570224053:=0
def tw9169849210874390012:=0
def tw11970324037771592579:=0
def tw11677048937305861853:=0
def tw8690214174417224315:=0
def tw7707700198268577883:=0
def tw184216052433476021:=0
def tw6429759659498005842:=0
def tw10448571872663680369:=0
def tw1031486317279478186:=0
def tw12178407011045770849:=0
def tw14251610622642496459:=0
def tw17723745652434479605:=0
def tw4466622030731262307:=0
def tw15618889250722856034:=0
def tw15871091915485122868:=0
def tw3183055634578177675:=0
def tw5033053070872460516:=0
def tw825815475481803235:=0
def tw5834222149801683:=0
def tw17098563420911352742:=0
def tw9869274417596022386:=0
def tw1479658715221810860:=0
def tw1225970210479796480:=0
def tw10206535592273599533:=0
def tw2905888562171533469:=0
def tw9634321014505006404:=0
def tw7804192823199257133:=0
def tw3576447414072602085:=0
def tw15768561801462341378:=0
def tw16512022370891328710:=0
def tw13335337698757567860:=0
def tw4038939495311656041:=0
def tw759362047494050802:=0
def tw17617125501528920987:=0
def tw7621911182639784277:=0
def tw5827730670418055249:=0
def tw11622833066199673891:=0
def tw5582482335312042897:=0
def tw11319228975749970429:=0
def tw14862415204169930449:=0
def tw5713993983517037749:=0
def tw2625186723276051868:=0
def tw14792333464024656351:=0
def tw1453543294936367203:=0
def tw7852381603915915766:=0
def tw2116161091945883776:=0
def tw11886904340216665203:=0
def tw5571431428617417662:=0
def tw15520847487164307183:=0
def tw3449279665171388100:=0
def tw14643059321938470708:=0
def tw14902743121896217081:=0
def tw17682442340639392845:=0
def tw1159851187473468914:=0
def tw14987265073015513075:=0
def tw478506178154588402:=0
def tw5297081899159740167:=0
def tw1825291042208497760:=0
def tw16219074550762252429:=0
def tw7358920158391607740:=0
def tw9488489366815063600:=0
def tw6105842140630291591:=0
def tw5549130034137593961:=0
def tw17322772281828651223:=0
def tw1287854885064213573:=0
def tw12371578289754123048:=0
def tw7530594147292771733:=0
def tw13580123823734966805:=0
def tw18436248422610216538:=0
def tw14116111080862182724:=0
def tw17064197892282059426:=0
def tw7063716235385262718:=0
def tw925037858854482351:=0
def tw6584151147628375730:=0
def tw1341342402078100780:=0
def tw9527618417222453205:=0
def tw17010541087872394997:=0
def tw16414258597341127154:=0
def tw7244803352644644981:=0
def tw12470016078165738836:=0
def tw14999612256096759934:=0
def tw10950036251777699582:=0
def tw4094543940922350274:=0
def tw4796448587688243458:=0
def tw2104672243660668021:=0
def tw9360746005095325621:=0
def tw4017753092087196931:=0
end PySem.W.Fast
open PySem PySem.W PyProof.Rows
set_option maxRecDepth 100000 in
set_option maxHeartbeats 0 in
theorem PySem.Challenge.cw_deedloom_k81_whole_fewer_states_run_alik_holds : PySem.Challenge.rw_deedloom_k81_whole_fewer_states_run_alik.Holds := by
 w_on; o_law; k_head; (case hw=>w_witness2)
 k_fill
 refine K81.Ks (l := PySem.Challenge.rw_deedloom_k81_whole_fewer_states_run_alik) rfl rfl rfl (fun w h Y=>PySem.W.kIn_of Y) ?F
 case F =>
  intro w mg h KX G
  exact ⟨⟨w.params,_,_,_,_,_,_,_,_,_,_,_,_,_,_,_,_,_,_,_,_,_,_,_,_,_,_,_,_,_,_,_,_,_,_,_,_,_,_,_,_,_,_,_,_,_,_,_,_,_,_,_,_,_,_,_,_,_,_,_,_,_,_,_,_,_,_,_,_,_,_,_,_,_,_,_,_,_,_,_,_,_,_,_,_,_,_,_,_,_,_,_,_,_,_,_,_,_,_,_,_,_,_,_,_,_,_,_,_,_,_,_,_,_,_,_,_⟩,⟨PySem.W.mg_of KX G ∅,K81.yv ∅ (by first | rfl | kernel_rfl | decide) (by first | rfl | kernel_rfl | decide),PySem.W.mg_of KX G ∅,L2.BR KX G ∅ ∅ ∅ ∅ ∅ ∅ ∅,by show PySem.W.findIn _ _ _ = some none; simp_arith [],by show PySem.W.findIn _ _ _ = some none; simp_arith [],by show PySem.W.findIn _ _ _ = some none; simp_arith [],by show PySem.W.findIn _ _ _ = some none; simp_arith [],by show PySem.W.findIn _ _ _ = some none; simp_arith [],L2.BR KX G ∅ ∅ ∅ ∅ ∅ ∅ ∅,by show PySem.W.findIn _ _ _ = some none; simp_arith [],L2.BR KX G ∅ ∅ ∅ ∅ ∅ ∅ ∅,by show PySem.W.findIn _ _ _ = some none; simp_arith [],by show PySem.W.findIn _ _ _ = some none; simp_arith [],by show PySem.W.findIn _ _ _ = some none; simp_arith [],by show PySem.W.findIn _ _ _ = some none; simp_arith [],L2.BR KX G ∅ ∅ ∅ ∅ ∅ ∅ ∅,by show PySem.W.findIn _ _ _ = some none; simp_arith [],by show PySem.W.findIn _ _ _ = some none; simp_arith [],by show PySem.W.findIn _ _ _ = some none; simp_arith [],L2.ck KX G ∅ ∅ ∅ ∅ (L2.bn1 fun _ _ _ _ _ _ _=>rfl),L2.ck KX G ∅ ∅ ∅ ∅ (L2.bn2 fun _ _ _ _ _ _ _ _=>rfl),L2.ck KX G ∅ ∅ ∅ ∅ (L2.bn2 fun _ _ _ _ _ _ _ _=>rfl),L2.ck KX G ∅ ∅ ∅ ∅ (L2.bn1 fun _ _ _ _ _ _ _=>rfl),L2.ck KX G ∅ ∅ ∅ ∅ (L2.bn1 fun _ _ _ _ _ _ _=>rfl),L2.ck KX G ∅ ∅ ∅ ∅ (L2.bn1 fun _ _ _ _ _ _ _=>rfl),L2.ck KX G ∅ ∅ ∅ ∅ (L2.bn2 fun _ _ _ _ _ _ _ _=>rfl),L2.ck KX G ∅ ∅ ∅ ∅ (L2.bn1 fun _ _ _ _ _ _ _=>rfl),L2.ck KX G ∅ ∅ ∅ ∅ (L2.bn1 fun _ _ _ _ _ _ _=>rfl),L2.gh ∅ ∅ ∅ ∅ ∅ (L2.bn5 fun _ _ _ _ _ _ _ _ _ _ _=>rfl),L2.ck KX G ∅ ∅ ∅ ∅ (L2.bn1 fun _ _ _ _ _ _ _=>rfl),L2.ck KX G ∅ ∅ ∅ ∅ (L2.bn1 fun _ _ _ _ _ _ _=>rfl),L2.ck KX G ∅ ∅ ∅ ∅ (L2.bn1 fun _ _ _ _ _ _ _=>rfl),L2.ck KX G ∅ ∅ ∅ ∅ (L2.bn4 fun _ _ _ _ _ _ _ _ _ _=>rfl),L2.ck KX G ∅ ∅ ∅ ∅ (L2.bn1 fun _ _ _ _ _ _ _=>rfl),L2.gh ∅ ∅ ∅ ∅ ∅ (L2.bn1 fun _ _ _ _ _ _ _=>rfl),L2.gh ∅ ∅ ∅ ∅ ∅ (L2.bn1 fun _ _ _ _ _ _ _=>rfl),L2.gh ∅ ∅ ∅ ∅ ∅ (L2.bn2 fun _ _ _ _ _ _ _ _=>rfl),L2.gh ∅ ∅ ∅ ∅ ∅ (L2.bn2 fun _ _ _ _ _ _ _ _=>rfl),L2.gh ∅ ∅ ∅ ∅ ∅ (L2.bn3 fun _ _ _ _ _ _ _ _ _=>rfl),L2.gh ∅ ∅ ∅ ∅ ∅ (L2.bn3 fun _ _ _ _ _ _ _ _ _=>rfl),L2.gh ∅ ∅ ∅ ∅ ∅ (L2.bn3 fun _ _ _ _ _ _ _ _ _=>rfl),L2.gh ∅ ∅ ∅ ∅ ∅ (L2.bn3 fun _ _ _ _ _ _ _ _ _=>rfl),L2.ck KX G ∅ ∅ ∅ ∅ (L2.bn1 fun _ _ _ _ _ _ _=>rfl),L2.ck KX G ∅ ∅ ∅ ∅ (L2.bn1 fun _ _ _ _ _ _ _=>rfl),L2.ck KX G ∅ ∅ ∅ ∅ (L2.bn1 fun _ _ _ _ _ _ _=>rfl),L2.ck KX G ∅ ∅ ∅ ∅ (L2.bn1 fun _ _ _ _ _ _ _=>rfl),L2.ck KX G ∅ ∅ ∅ ∅ (L2.bn2 fun _ _ _ _ _ _ _ _=>rfl),L2.ck KX G ∅ ∅ ∅ ∅ (L2.bn3 fun _ _ _ _ _ _ _ _ _=>rfl),L2.ck KX G ∅ ∅ ∅ ∅ (L2.bn3 fun _ _ _ _ _ _ _ _ _=>rfl),L2.ck KX G ∅ ∅ ∅ ∅ (L2.bn2 fun _ _ _ _ _ _ _ _=>rfl),L2.gh ∅ ∅ ∅ ∅ ∅ (L2.bn3 fun _ _ _ _ _ _ _ _ _=>rfl),L2.gh ∅ ∅ ∅ ∅ ∅ (L2.bn2 fun _ _ _ _ _ _ _ _=>rfl),L2.gh ∅ ∅ ∅ ∅ ∅ (L2.bn4 fun _ _ _ _ _ _ _ _ _ _=>rfl),L2.gh ∅ ∅ ∅ ∅ ∅ (L2.bn4 fun _ _ _ _ _ _ _ _ _ _=>rfl),L2.gh ∅ ∅ ∅ ∅ ∅ (L2.bn4 fun _ _ _ _ _ _ _ _ _ _=>rfl),L2.ck KX G ∅ ∅ ∅ ∅ (L2.bn2 fun _ _ _ _ _ _ _ _=>rfl),L2.ck KX G ∅ ∅ ∅ ∅ (L2.bn2 fun _ _ _ _ _ _ _ _=>rfl),L2.ck KX G ∅ ∅ ∅ ∅ (L2.bn2 fun _ _ _ _ _ _ _ _=>rfl),L2.ck KX G ∅ ∅ ∅ ∅ (L2.bn2 fun _ _ _ _ _ _ _ _=>rfl),L2.gh ∅ ∅ ∅ ∅ ∅ (L2.bn4 fun _ _ _ _ _ _ _ _ _ _=>rfl),L2.gh ∅ ∅ ∅ ∅ ∅ (L2.bn1 fun _ _ _ _ _ _ _=>rfl),L2.ck KX G ∅ ∅ ∅ ∅ (L2.bn4 fun _ _ _ _ _ _ _ _ _ _=>rfl),L2.ck KX G ∅ ∅ ∅ ∅ (L2.bn2 fun _ _ _ _ _ _ _ _=>rfl),L2.ck KX G ∅ ∅ ∅ ∅ (L2.bn1 fun _ _ _ _ _ _ _=>rfl),L2.ck KX G ∅ ∅ ∅ ∅ (L2.bn3 fun _ _ _ _ _ _ _ _ _=>rfl),L2.ck KX G ∅ ∅ ∅ ∅ (L2.bn3 fun _ _ _ _ _ _ _ _ _=>rfl),L2.ck KX G ∅ ∅ ∅ ∅ (L2.bn2 fun _ _ _ _ _ _ _ _=>rfl),L2.ck KX G ∅ ∅ ∅ ∅ (L2.bn1 fun _ _ _ _ _ _ _=>rfl),L2.ck KX G ∅ ∅ ∅ ∅ (L2.bn4 fun _ _ _ _ _ _ _ _ _ _=>rfl),L2.ck KX G ∅ ∅ ∅ ∅ (L2.bn2 fun _ _ _ _ _ _ _ _=>rfl),L2.ck KX G ∅ ∅ ∅ ∅ (L2.bn4 fun _ _ _ _ _ _ _ _ _ _=>rfl),L2.ck KX G ∅ ∅ ∅ ∅ (L2.bn4 fun _ _ _ _ _ _ _ _ _ _=>rfl),L2.ck KX G ∅ ∅ ∅ ∅ (L2.bn5 fun _ _ _ _ _ _ _ _ _ _ _=>rfl),L2.ck KX G ∅ ∅ ∅ ∅ (L2.bn1 fun _ _ _ _ _ _ _=>rfl),PySem.W.mg_none_of KX G ∅,PySem.W.mg_none_of KX G ∅,PySem.W.mg_none_of KX G ∅,PySem.W.mg_none_of KX G ∅,PySem.W.mg_none_of KX G ∅,PySem.W.mg_none_of KX G ∅,PySem.W.mg_none_of KX G ∅,PySem.W.mg_none_of KX G ∅,PySem.W.mg_none_of KX G ∅,PySem.W.mg_none_of KX G ∅,PySem.W.mg_none_of KX G ∅,PySem.W.mg_none_of KX G ∅,PySem.W.mg_none_of KX G ∅,PySem.W.mg_none_of KX G ∅,PySem.W.mg_none_of KX G ∅,PySem.W.mg_none_of KX G ∅⟩,rfl⟩
