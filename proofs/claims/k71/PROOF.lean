import PyProof.Rows.All
import Wide.All
import OpenK.AllK
import PySem.Challenge.RW_deedloom_k71_whole_units_make_no_differe
set_option genSizeOf false
set_option compiler.extract_closed false
set_option Elab.async false
set_option linter.all false
set_option maxRecDepth 100000
local macro_rules|`($d:definition)=>`(noncomputable $d:definition)
local macro_rules|`(tactic|omega)=>`(tactic|first|assumption|lia|omega +splitNatSub)
noncomputable section
set_option linter.all false
namespace Zq
open PySem
def zq0:=@Nat.le_refl
def zq1:=@List.length_map
def zq2:=@List.mem_singleton
def zq3:=@Bool.false_ne_true
def zq4:=@List.length_append
def zq5:=@List.mem_cons
def zq6:=@List.mem_cons_of_mem
def zq7:=@Heap.lt_size
def zq8:=@List.getElem?_eq_getElem
def zq9:=@List.mem_of_getElem?
def zq10:=@List.getElem?_eq_some_iff
def zq11:=@List.mem_append
def bX:=@Heap.get?_push_of_some
def c9:=@List.length_singleton
def cm:=@Nat.zero_le
def cn:=@List.getElem?_map
def cx:=@Nat.ne_of_lt
def cy:=@List.map_append
def cJ:=@List.length_cons
def cL:=@Nat.le_trans
def d9:=@List.map_cons
def dA:=@Heap.get?_push_size
def dB:=@Bool.and_eq_true
def zq23:=@List.mem_map
def dC:=@List.mem_append_right
def zq25:=@List.nodup_cons
def dR:=@Nat.lt_of_lt_of_le
def dS:=@List.length_take
def eg:=@List.take_succ_eq_append_getElem
def eD:=@List.mem_cons_self
def eE:=@List.take_length
def eO:=@Int.emod_nonneg
def zq32:=@Option.map_eq_some_iff
def fc:=@List.length_range
def fI:=@List.size_toArray
def fJ:=@List.getD_eq_getElem?_getD
def zq36:=@List.all_eq_true
def gc:=@Int.emod_lt_of_pos
def gQ:=@List.append_nil
def zq39:=@List.mem_filter
def zq40:=@List.mem_range
def jh:=@List.getElem?_append_right
def zq42:=@List.length_eq_zero_iff
def jD:=@List.mem_append_left
def jE:=@List.getElem?_append_left
def jF:=@Int.toNat_natCast
def jG:=@List.length_reverse
def zq47:=@List.length_pos_iff
def jH:=@List.map_map
def kP:=@List.length_dropLast
def lu:=@Nat.ne_of_gt
def lA:=@Heap.size_push
def lC:=@Int.eq_ofNat_of_zero_le
def nN:=@Nat.lt_irrefl
def nO:=@Nat.le_of_lt
def nP:=@Bool.or_eq_true
def nQ:=@List.getElem_mem
def nR:=@Int.one_mul
def nT:=@List.take_of_length_le
def zq59:=@List.nodup_append
def nU:=@Nat.le_add_right
def zq61:=@List.mem_iff_getElem?
def qE:=@Bool.eq_iff_iff
def qF:=@List.any_cons
def qG:=@List.lookup_cons
def qH:=@Int.pow_pos
def qI:=@List.append_assoc
def qJ:=@List.foldl_append
def qK:=@List.prefix_refl
def qL:=@Nat.sub_self
def qM:=@List.nil_append
def sD:=@List.length_set
def sE:=@List.all_cons
def sF:=@List.dropLast_concat_getLast
def zq74:=@List.mem_flatMap
def wH:=@List.getElem?_set_ne
def wI:=@Nat.le_of_eq
def wJ:=@List.cons_append
def zq78:=@List.any_eq_true
def wK:=@List.getElem?_range
def wL:=@Nat.min_eq_left
def wM:=@List.map_congr_left
def wN:=@List.reverse_append
def wO:=@List.mem_of_mem_take
def zq84:=@List.mem_flatten
def wQ:=@List.length_mapIdx
def wR:=@List.concat_eq_append
def Av:=@List.getElem?_set_self
def Aw:=@Nat.le_succ
def Ax:=@List.length_drop
def Ay:=@List.nodup_nil
def Az:=@Nat.lt_of_le_of_lt
def AA:=@Bool.true_and
def AB:=@List.getElem?_eq_none
def AC:=@Nat.sub_zero
def AD:=@List.not_mem_nil
def AE:=@List.sublist_append_left
def zq97:=@List.pairwise_lt_range
def AF:=@List.reverse_reverse
def AG:=@List.nodup_range
def uH:=@Nat.lt_succ_self
def uI:=@Heap.get?_update_self
def uJ:=@Option.map_some
def uK:=@List.length_nil
def uL:=@List.filter_append
def uM:=@List.getElem?_toArray
def uO:=@List.getElem?_reverse
def uP:=@List.map_singleton
def uQ:=@List.pairwise_cons
def uR:=@List.map_take
def zX:=@List.filterMap_cons
def zY:=@Bool.false_and
def zZ:=@List.of_mem_zip
def A0:=@List.getElem?_replicate
def A1:=@List.length_replicate
def A2:=@Heap.get?_update_other
def A3:=@List.map_nil
def A4:=@List.getElem?_cons_succ
def A5:=@List.length_filter_le
def A6:=@List.reverse_cons
def A7:=@List.ext_getElem?
def A8:=@List.range_succ
def A9:=@List.drop_zero
def Aa:=@Nat.min_eq_right
def Ab:=@Nat.pow_succ
def Ac:=@Nat.and_le_left
def Ae:=@Nat.or_lt_two_pow
def Af:=@Nat.pow_le_pow_right
def Ag:=@List.take_zero
def Ah:=@List.prefix_append
def Ai:=@List.countP_append
def Aj:=@List.foldl_cons
def Ak:=@List.exists_mem_of_ne_nil
def Al:=@List.perm_append_comm
def Am:=@List.take_append_drop
def An:=@List.drop_length
def Ao:=@List.all_map
def Ap:=@List.any_map
def Aq:=@List.getLastD_eq_getLast?
def Ar:=@List.flatten_cons
def As:=@Int.le_of_lt
def Au:=@List.getElem?_dropLast
def zq142:=@Option.isSome_iff_exists
def DR:=@Array.getElem?_toList
def DS:=@List.mem_of_find?_eq_some
def DT:=@Array.getElem?_eq_getElem
def DU:=@List.drop_of_length_le
def zq147:=@Option.isNone_iff_eq_none
def DV:=@List.mem_or_eq_of_mem_set
def DW:=@List.perm_ext_iff_of_nodup
def DX:=@List.getElem?_zip_eq_some
def DY:=@List.eq_nil_or_concat
def DZ:=@List.getLast?_eq_getElem?
def E1:=@List.dropLast_eq_take
def zq154:=@Option.map_eq_none_iff
section
variable{Q R S T U V W X Y Z:Type}
theorem zn{A B:Q->Prop}(a):A a->B a->∃a,A a/\B a:=(⟨a,·,·⟩)
theorem zAA{A B C:Q->R->Prop}(a b):A a b->B a b->C a b->∃a b,A a b/\B a b/\C a b:=(⟨a,b,·,·,·⟩)
theorem zAB{A B C:Prop}:A->B->C->A/\B/\C:=(⟨·,·,·⟩)
theorem zAC{A B C:Q->Prop}(a):A a->B a->C a->∃a,A a/\B a/\C a:=(⟨a,·,·,·⟩)
theorem zAD{A B:Q->R->Prop}(a b):A a b->B a b->∃a b,A a b/\B a b:=(⟨a,b,·,·⟩)
theorem zAE{A B C D:Q->R->Prop}(a b):A a b->B a b->C a b->D a b->∃a b,A a b/\B a b/\C a b/\D a b:=(⟨a,b,·,·,·,·⟩)
theorem zAF{A B C D:Q->Prop}(a):A a->B a->C a->D a->∃a,A a/\B a/\C a/\D a:=(⟨a,·,·,·,·⟩)
theorem zAG{A B C D:Prop}:A->B->C->D->A/\B/\C/\D:=(⟨·,·,·,·⟩)
theorem zAH{A:Q->R->S->Prop}(a b c):A a b c->∃a b c,A a b c:=(⟨a,b,c,·⟩)
theorem zAI{A B C D E:Prop}:A->B->C->D->E->A/\B/\C/\D/\E:=(⟨·,·,·,·,·⟩)
theorem zAJ{A:Q->R->Prop}(a b):A a b->∃a b,A a b:=(⟨a,b,·⟩)
theorem zAK{A B:Q->R->S->Prop}(a b c):A a b c->B a b c->∃a b c,A a b c/\B a b c:=(⟨a,b,c,·,·⟩)
theorem zAL{A B C D E:Q->R->S->Prop}(a b c):A a b c->B a b c->C a b c->D a b c->E a b c->∃a b c,A a b c/\B a b c/\C a b c/\D a b c/\E a b c:=(⟨a,b,c,·,·,·,·,·⟩)
theorem zAM{A B C D E:Q->R->S->T->Prop}(a b c d):A a b c d->B a b c d->C a b c d->D a b c d->E a b c d->∃a b c d,A a b c d/\B a b c d/\C a b c d/\D a b c d/\E a b c d:=(⟨a,b,c,d,·,·,·,·,·⟩)
theorem zAN{A B C:Q->R->S->Prop}(a b c):A a b c->B a b c->C a b c->∃a b c,A a b c/\B a b c/\C a b c:=(⟨a,b,c,·,·,·⟩)
theorem zAO{A B C D:Q->R->S->Prop}(a b c):A a b c->B a b c->C a b c->D a b c->∃a b c,A a b c/\B a b c/\C a b c/\D a b c:=(⟨a,b,c,·,·,·,·⟩)
theorem zAP{A B:Q->R->S->T->Prop}(a b c d):A a b c d->B a b c d->∃a b c d,A a b c d/\B a b c d:=(⟨a,b,c,d,·,·⟩)
theorem zAQ{A B C D E F:Prop}:A->B->C->D->E->F->A/\B/\C/\D/\E/\F:=(⟨·,·,·,·,·,·⟩)
theorem zAR{A B C D E F H:Prop}:A->B->C->D->E->F->H->A/\B/\C/\D/\E/\F/\H:=(⟨·,·,·,·,·,·,·⟩)
theorem zAS{A:Q->R->S->T->U->Prop}(a b c d e):A a b c d e->∃a b c d e,A a b c d e:=(⟨a,b,c,d,e,·⟩)
theorem zAT{A B C D E:Q->R->Prop}(a b):A a b->B a b->C a b->D a b->E a b->∃a b,A a b/\B a b/\C a b/\D a b/\E a b:=(⟨a,b,·,·,·,·,·⟩)
theorem zAU{A B C D:Q->R->S->T->Prop}(a b c d):A a b c d->B a b c d->C a b c d->D a b c d->∃a b c d,A a b c d/\B a b c d/\C a b c d/\D a b c d:=(⟨a,b,c,d,·,·,·,·⟩)
theorem zAV{A:Q->R->S->T->U->V->W->X->Y->Prop}(a b c d e f g i j):A a b c d e f g i j->∃a b c d e f g i j,A a b c d e f g i j:=(⟨a,b,c,d,e,f,g,i,j,·⟩)
theorem zAW{A B C D E F:Q->R->S->T->U->Prop}(a b c d e):A a b c d e->B a b c d e->C a b c d e->D a b c d e->E a b c d e->F a b c d e->∃a b c d e,A a b c d e/\B a b c d e/\C a b c d e/\D a b c d e/\E a b c d e/\F a b c d e:=(⟨a,b,c,d,e,·,·,·,·,·,·⟩)
theorem zAX{A B C:Q->R->S->T->Prop}(a b c d):A a b c d->B a b c d->C a b c d->∃a b c d,A a b c d/\B a b c d/\C a b c d:=(⟨a,b,c,d,·,·,·⟩)
theorem zAY{A:Q->R->S->T->U->V->W->X->Prop}(a b c d e f g i):A a b c d e f g i->∃a b c d e f g i,A a b c d e f g i:=(⟨a,b,c,d,e,f,g,i,·⟩)
theorem zAZ{A B C D E:Q->Prop}(a):A a->B a->C a->D a->E a->∃a,A a/\B a/\C a/\D a/\E a:=(⟨a,·,·,·,·,·⟩)
theorem zBA{A B C D E F:Q->R->S->T->Prop}(a b c d):A a b c d->B a b c d->C a b c d->D a b c d->E a b c d->F a b c d->∃a b c d,A a b c d/\B a b c d/\C a b c d/\D a b c d/\E a b c d/\F a b c d:=(⟨a,b,c,d,·,·,·,·,·,·⟩)
theorem zBB{A:Q->R->S->T->U->V->Prop}(a b c d e f):A a b c d e f->∃a b c d e f,A a b c d e f:=(⟨a,b,c,d,e,f,·⟩)
theorem zBC{A B C D E F H:Q->R->S->T->U->V->W->Prop}(a b c d e f g):A a b c d e f g->B a b c d e f g->C a b c d e f g->D a b c d e f g->E a b c d e f g->F a b c d e f g->H a b c d e f g->∃a b c d e f g,A a b c d e f g/\B a b c d e f g/\C a b c d e f g/\D a b c d e f g/\E a b c d e f g/\F a b c d e f g/\H a b c d e f g:=(⟨a,b,c,d,e,f,g,·,·,·,·,·,·,·⟩)
theorem zBD{A B C:Q->R->S->T->U->Prop}(a b c d e):A a b c d e->B a b c d e->C a b c d e->∃a b c d e,A a b c d e/\B a b c d e/\C a b c d e:=(⟨a,b,c,d,e,·,·,·⟩)
theorem zBE{A B C D E F H:Q->R->S->T->Prop}(a b c d):A a b c d->B a b c d->C a b c d->D a b c d->E a b c d->F a b c d->H a b c d->∃a b c d,A a b c d/\B a b c d/\C a b c d/\D a b c d/\E a b c d/\F a b c d/\H a b c d:=(⟨a,b,c,d,·,·,·,·,·,·,·⟩)
theorem zBF{A B C D E F H I:Prop}:A->B->C->D->E->F->H->I->A/\B/\C/\D/\E/\F/\H/\I:=(⟨·,·,·,·,·,·,·,·⟩)
theorem zBG{A B C D E F H I J:Prop}:A->B->C->D->E->F->H->I->J->A/\B/\C/\D/\E/\F/\H/\I/\J:=(⟨·,·,·,·,·,·,·,·,·⟩)
theorem zBH{A B C D E F H I J K:Q->R->S->T->U->V->W->Prop}(a b c d e f g):A a b c d e f g->B a b c d e f g->C a b c d e f g->D a b c d e f g->E a b c d e f g->F a b c d e f g->H a b c d e f g->I a b c d e f g->J a b c d e f g->K a b c d e f g->∃a b c d e f g,A a b c d e f g/\B a b c d e f g/\C a b c d e f g/\D a b c d e f g/\E a b c d e f g/\F a b c d e f g/\H a b c d e f g/\I a b c d e f g/\J a b c d e f g/\K a b c d e f g:=(⟨a,b,c,d,e,f,g,·,·,·,·,·,·,·,·,·,·⟩)
theorem zBI{A B C D E F:Q->R->Prop}(a b):A a b->B a b->C a b->D a b->E a b->F a b->∃a b,A a b/\B a b/\C a b/\D a b/\E a b/\F a b:=(⟨a,b,·,·,·,·,·,·⟩)
theorem zBJ{A B C D E F H I J:Q->R->S->T->U->V->W->X->Prop}(a b c d e f g i):A a b c d e f g i->B a b c d e f g i->C a b c d e f g i->D a b c d e f g i->E a b c d e f g i->F a b c d e f g i->H a b c d e f g i->I a b c d e f g i->J a b c d e f g i->∃a b c d e f g i,A a b c d e f g i/\B a b c d e f g i/\C a b c d e f g i/\D a b c d e f g i/\E a b c d e f g i/\F a b c d e f g i/\H a b c d e f g i/\I a b c d e f g i/\J a b c d e f g i:=(⟨a,b,c,d,e,f,g,i,·,·,·,·,·,·,·,·,·⟩)
theorem zBK{A:Q->R->S->T->U->V->W->X->Y->Z->Prop}(a b c d e f g i j l):A a b c d e f g i j l->∃a b c d e f g i j l,A a b c d e f g i j l:=(⟨a,b,c,d,e,f,g,i,j,l,·⟩)
theorem zBL{A B C D:Q->R->S->T->U->Prop}(a b c d e):A a b c d e->B a b c d e->C a b c d e->D a b c d e->∃a b c d e,A a b c d e/\B a b c d e/\C a b c d e/\D a b c d e:=(⟨a,b,c,d,e,·,·,·,·⟩)
theorem zBM{A:Q->R->S->T->Prop}(a b c d):A a b c d->∃a b c d,A a b c d:=(⟨a,b,c,d,·⟩)
theorem zBN{A B C D E F H I J K:Prop}:A->B->C->D->E->F->H->I->J->K->A/\B/\C/\D/\E/\F/\H/\I/\J/\K:=(⟨·,·,·,·,·,·,·,·,·,·⟩)
theorem zBO{A:Q->R->S->T->U->V->W->Prop}(a b c d e f g):A a b c d e f g->∃a b c d e f g,A a b c d e f g:=(⟨a,b,c,d,e,f,g,·⟩)
theorem zBP{A B C D E F H I J K L M N:Prop}:A->B->C->D->E->F->H->I->J->K->L->M->N->A/\B/\C/\D/\E/\F/\H/\I/\J/\K/\L/\M/\N:=(⟨·,·,·,·,·,·,·,·,·,·,·,·,·⟩)
end
section
variable{Q R S T:Type}{g:Prop}
theorem eQ02{A B C:Prop}(k:A->B->C->g)(h:A/\B/\C):g:=let ⟨hA,hB,hC⟩:=h;k hA hB hC
theorem eQ03{A B C D:Prop}(k:A->B->C->D->g)(h:A/\B/\C/\D):g:=let ⟨hA,hB,hC,hD⟩:=h;k hA hB hC hD
theorem eQ04{A B C D E:Prop}(k:A->B->C->D->E->g)(h:A/\B/\C/\D/\E):g:=let ⟨hA,hB,hC,hD,hE⟩:=h;k hA hB hC hD hE
theorem eQ11{A B:Q->Prop}(k:∀a,A a->B a->g)(h:∃a,A a/\B a):g:=let ⟨a,hA,hB⟩:=h;k a hA hB
theorem eQ12{A B C:Q->Prop}(k:∀a,A a->B a->C a->g)(h:∃a,A a/\B a/\C a):g:=let ⟨a,hA,hB,hC⟩:=h;k a hA hB hC
theorem eQ13{A B C D:Q->Prop}(k:∀a,A a->B a->C a->D a->g)(h:∃a,A a/\B a/\C a/\D a):g:=let ⟨a,hA,hB,hC,hD⟩:=h;k a hA hB hC hD
theorem eQ14{A B C D E:Q->Prop}(k:∀a,A a->B a->C a->D a->E a->g)(h:∃a,A a/\B a/\C a/\D a/\E a):g:=let ⟨a,hA,hB,hC,hD,hE⟩:=h;k a hA hB hC hD hE
theorem eQ20{A:Q->R->Prop}(k:∀a b,A a b->g)(h:∃a b,A a b):g:=let ⟨a,b,hA⟩:=h;k a b hA
theorem eQ21{A B:Q->R->Prop}(k:∀a b,A a b->B a b->g)(h:∃a b,A a b/\B a b):g:=let ⟨a,b,hA,hB⟩:=h;k a b hA hB
theorem eQ22{A B C:Q->R->Prop}(k:∀a b,A a b->B a b->C a b->g)(h:∃a b,A a b/\B a b/\C a b):g:=let ⟨a,b,hA,hB,hC⟩:=h;k a b hA hB hC
theorem eQ23{A B C D:Q->R->Prop}(k:∀a b,A a b->B a b->C a b->D a b->g)(h:∃a b,A a b/\B a b/\C a b/\D a b):g:=let ⟨a,b,hA,hB,hC,hD⟩:=h;k a b hA hB hC hD
theorem eQ24{A B C D E:Q->R->Prop}(k:∀a b,A a b->B a b->C a b->D a b->E a b->g)(h:∃a b,A a b/\B a b/\C a b/\D a b/\E a b):g:=let ⟨a,b,hA,hB,hC,hD,hE⟩:=h;k a b hA hB hC hD hE
theorem eQ30{A:Q->R->S->Prop}(k:∀a b c,A a b c->g)(h:∃a b c,A a b c):g:=let ⟨a,b,c,hA⟩:=h;k a b c hA
theorem eQ31{A B:Q->R->S->Prop}(k:∀a b c,A a b c->B a b c->g)(h:∃a b c,A a b c/\B a b c):g:=let ⟨a,b,c,hA,hB⟩:=h;k a b c hA hB
theorem eQ32{A B C:Q->R->S->Prop}(k:∀a b c,A a b c->B a b c->C a b c->g)(h:∃a b c,A a b c/\B a b c/\C a b c):g:=let ⟨a,b,c,hA,hB,hC⟩:=h;k a b c hA hB hC
theorem eQ33{A B C D:Q->R->S->Prop}(k:∀a b c,A a b c->B a b c->C a b c->D a b c->g)(h:∃a b c,A a b c/\B a b c/\C a b c/\D a b c):g:=let ⟨a,b,c,hA,hB,hC,hD⟩:=h;k a b c hA hB hC hD
theorem eQ34{A B C D E:Q->R->S->Prop}(k:∀a b c,A a b c->B a b c->C a b c->D a b c->E a b c->g)(h:∃a b c,A a b c/\B a b c/\C a b c/\D a b c/\E a b c):g:=let ⟨a,b,c,hA,hB,hC,hD,hE⟩:=h;k a b c hA hB hC hD hE
theorem eQ40{A:Q->R->S->T->Prop}(k:∀a b c d,A a b c d->g)(h:∃a b c d,A a b c d):g:=let ⟨a,b,c,d,hA⟩:=h;k a b c d hA
theorem eQ41{A B:Q->R->S->T->Prop}(k:∀a b c d,A a b c d->B a b c d->g)(h:∃a b c d,A a b c d/\B a b c d):g:=let ⟨a,b,c,d,hA,hB⟩:=h;k a b c d hA hB
theorem eQ42{A B C:Q->R->S->T->Prop}(k:∀a b c d,A a b c d->B a b c d->C a b c d->g)(h:∃a b c d,A a b c d/\B a b c d/\C a b c d):g:=let ⟨a,b,c,d,hA,hB,hC⟩:=h;k a b c d hA hB hC
theorem eQ43{A B C D:Q->R->S->T->Prop}(k:∀a b c d,A a b c d->B a b c d->C a b c d->D a b c d->g)(h:∃a b c d,A a b c d/\B a b c d/\C a b c d/\D a b c d):g:=let ⟨a,b,c,d,hA,hB,hC,hD⟩:=h;k a b c d hA hB hC hD
theorem eQ44{A B C D E:Q->R->S->T->Prop}(k:∀a b c d,A a b c d->B a b c d->C a b c d->D a b c d->E a b c d->g)(h:∃a b c d,A a b c d/\B a b c d/\C a b c d/\D a b c d/\E a b c d):g:=let ⟨a,b,c,d,hA,hB,hC,hD,hE⟩:=h;k a b c d hA hB hC hD hE
end
@[inline] def zT(v:Option Lean.Term)(q:Array (Lean.TSyntax `Lean.Parser.Tactic.rcasesPatLo))(ps:Array (Lean.TSyntax `rintroPat)):Lean.MacroM (Lean.TSyntax `tactic):=do
 let n:=q.size
 let mut t<-match v with
  |none=>`(tactic|(intro h;rcases h with ⟨$q,*⟩))
  |some v=>`(tactic|rcases $v:term with ⟨$q,*⟩)
 if ps.size>0 then t<-`(tactic|$t:tactic<;>rintro $ps*)
 for s in [2:n] do
  let mut p:=#[]
  let mut hs:=#[]
  for x in q[:if s+1=n then n else s] do
   if x.raw[0][0].getNumArgs==1&&x.raw[0][0][0][0].getId==`rfl then
    let h:=Lean.mkIdent (<-Lean.MonadQuotation.addMacroScope (.mkSimple s!"h{hs.size}"))
    hs:=hs.push h
    p:=p.push (<-`(rintroPat|$h:ident))
   else p:=p.push (<-`(rintroPat|($x:rcasesPatLo)))
  if s+1<n then
   let r:=q[s:].toArray
   p:=p.push (<-`(rintroPat|⟨$r,*⟩))
  p:=p++ps
  let mut u<-`(tactic|rintro $p*)
  if hs.size>0 then u<-`(tactic|$u:tactic<;>subst $hs*)
  for i in [0:s+1] do
   if i<5&&s-i<5 then
    let nm:=Lean.mkIdent (.mkSimple s!"eQ{i}{s-i}")
    match v with
    |none=>t<-`(tactic|first|(refine $nm ?_;$u:tactic)|$t:tactic)
    |some v=>if v.raw.isIdent then t<-`(tactic|first|(refine $nm ?_ $v;(try clear $v);$u:tactic)|$t:tactic) else t<-`(tactic|first|(refine $nm ?_ $v;$u:tactic)|$t:tactic)
 pure t
theorem Jv{p:Prop}(h:p:=by decide +kernel):p:=h
theorem Jw{p:Prop}(h:p:=by kernel_rfl):p:=h
theorem Jx{p:Prop}(h:p:=by decide):p:=h
theorem Jy{p:Prop}(h:p:=by omega):p:=h
theorem Jz{p:Prop}(h:p:=by simp):p:=h
theorem JA{p:Prop}(h:p:=by rfl):p:=h
end Zq
open Zq
local macro_rules|`(tactic|obtain ⟨$p,*⟩:=$v)=>if p.getElems.size<3 then Lean.Macro.throwUnsupported else zT v p #[]
local macro_rules|`(tactic|rintro $p*)=>do
 let some t:=p.findIdx? fun x=>x.raw[0].isOfKind `Lean.Parser.Tactic.rcasesPat.tuple&&x.raw[0][1].getSepArgs.size>2|Lean.Macro.throwUnsupported
 let b<-zT none (p[t]!.raw[0][1].getSepArgs.map (⟨·⟩)) p[t+1:].toArray
 let a:=p[:t].toArray
 if t>0 then `(tactic|(rintro $a*;$b:tactic)) else pure b
section
open PySem PySem.Spec PyProof.Rows
namespace L2
abbrev Key:=Sum Int Str
def jn:Key->Value->Bool
 | .inl k,v=>Value.isInt k v
 | .inr x,v=>Value.isStrOf x v
def IO(w:World):Key->Int
 | .inl k=>hashInt k
 | .inr x=>hashStr w x
theorem bT:∀{k:Key} {v:Value},jn k v=true->(∃i t,k=Sum.inl i/\v=Value.int i t)\/(∃x t,k=Sum.inr x/\v=Value.str x t)
 | .inl i,v,h=>by
  obtain ⟨t,e⟩:=Value.isInt_shape (k:=i) (v:=v) h;exact .inl (zAD i t rfl e)
 | .inr x,v,h=>by obtain ⟨t,e⟩:=Value.isStrOf_shape (x:=x) (v:=v) h;exact .inr (zAD x t rfl e)
theorem vt(i:Int)(t:Tok):jn (.inl i) (.int i t)=true:=by simp [jn,Value.isInt]
theorem vv(x:Str)(t:Tok):jn (.inr x) (.str x t)=true:=by simp [jn,Value.isStrOf]
theorem Er(a b:Int):decide ((Sum.inl a:Key)=Sum.inl b)=(a==b):=by
 by_cases e:a=b
 ·subst e;simp
 ·have h:¬(Sum.inl a:Key)=Sum.inl b:=fun q=>e (Sum.inl.inj q);rw [decide_eq_false h];exact (beq_eq_false_iff_ne.mpr e).symm
theorem Eu(a b:Str):decide ((Sum.inr a:Key)=Sum.inr b)=decide (a=b):=by
 by_cases e:a=b
 ·subst e;simp
 ·have h:¬(Sum.inr a:Key)=Sum.inr b:=fun q=>e (Sum.inr.inj q);rw [decide_eq_false h,decide_eq_false e]
theorem Es(a:Int)(b:Str):decide ((Sum.inl a:Key)=Sum.inr b)=false:=decide_eq_false (fun q=>nomatch q)
theorem Et(a:Str)(b:Int):decide ((Sum.inr a:Key)=Sum.inl b)=false:=decide_eq_false (fun q=>nomatch q)
def bC(prog:Program)(w:World):PySem.KeyKind prog w Key where
 is:=jn
 hash:=IO w
 inj:=fun v a b ha hb=>by
  rcases bT ha with ⟨i,t,rfl,rfl⟩ | ⟨x,t,rfl,rfl⟩
  ·rcases bT hb with ⟨j,u,rfl,e⟩ | ⟨y,u,rfl,e⟩
   ·injection e with e1 _;rw [e1]
   ·exact nomatch e
  ·rcases bT hb with ⟨j,u,rfl,e⟩ | ⟨y,u,rfl,e⟩
   ·exact nomatch e
   ·injection e with e1 _;rw [e1]
 byValue:=fun k v h=>by rcases bT h with ⟨i,t,rfl,rfl⟩ | ⟨x,t,rfl,rfl⟩<;>rfl
 pyHash:=fun hv h=>by
  rcases bT hv with ⟨i,t,rfl,rfl⟩ | ⟨x,t,rfl,rfl⟩
  ·exact wpAny_pyHash_int h
  ·exact wpAny_pyHash_str h
 eqBool:=fun hu hv h=>by
  rcases bT hu with ⟨i,t,rfl,rfl⟩ | ⟨x,t,rfl,rfl⟩
  ·rcases bT hv with ⟨j,u,rfl,rfl⟩ | ⟨y,u,rfl,rfl⟩
   ·rw [Er] at h;exact wpAny_eqBool_int h
   ·rw [Es] at h;exact SeqAt.EqAt.int_str i t y u _ _ _ _ h
  ·rcases bT hv with ⟨j,u,rfl,rfl⟩ | ⟨y,u,rfl,rfl⟩
   ·rw [Et] at h;exact SeqAt.EqAt.str_int x t j u _ _ _ _ h
   ·rw [Eu] at h;exact wpAny_eqBool_str h
 «strs»:=fun k x t v h=>by
  rcases bT h with ⟨i,u,rfl,e⟩ | ⟨y,u,rfl,e⟩
  ·exact nomatch e
  ·injection e with e1 _;subst e1
   cases v<;>rfl
theorem pv(prog:Program)(w:World)(i:Int)(t:Tok):(bC prog w).is (.inl i) (.int i t)=true:=vt i t
theorem pz(prog:Program)(w:World)(x:Str)(t:Tok):(bC prog w).is (.inr x) (.str x t)=true:=vv x t
end L2
namespace L2
inductive V where
 |non | bl (b:Bool) | int (i:Int) | str (x:Str) | byt (b:Array UInt8) | flt (b:UInt64) | ref (a:Addr) | ty (n:String)
 deriving DecidableEq
def RelV:V->Value->Prop
 | .non,u=>u=Value.none
 | .bl b,u=>u=Value.bool b
 | .int i,u=>∃t,u=Value.int i t
 | .str x,u=>∃t,u=Value.str x t
 | .byt b,u=>∃t,u=Value.bytes b t
 | .flt b,u=>∃t,u=Value.float b t
 | .ref a,u=>u=Value.ref a
 | .ty n,u=>u=Value.type n
abbrev Vals:List V->List Value->Prop:=Paired RelV
theorem Vals.length{xs:List V}{us:List Value}(r:Vals xs us):xs.length=us.length:=Paired.length r
theorem Vals.get:∀{xs:List V} {us:List Value} {i:Nat} {x:V},Vals xs us->xs[i]?=some x->∃u,us[i]?=some u/\RelV x u
 |_,_,_,_,.nil,e=>by simp at e
 |_,_,0,_,.cons r _,e=>by simp at e;subst e;exact zn _ rfl r
 |_,_,i+1,x,.cons _ t,e=>by obtain ⟨u,h1,h2⟩:=Vals.get (i:=i) (x:=x) t (by simpa using e);exact zn u (by simpa using h1) h2
theorem Vals.set{x:V}{u:Value}(r:RelV x u):∀{xs:List V} {us:List Value} (i:Nat),Vals xs us->Vals (xs.set i x) (us.set i u)
 |_,_,_,.nil=>.nil
 |_,_,0,.cons _ t=>.cons r t
 |_,_,i+1,.cons q t=>.cons q (Vals.set r i t)
theorem Vals.append:∀{xs ys:List V} {us ws:List Value},Vals xs us->Vals ys ws->Vals (xs++ys) (us++ws)
 |_,_,_,_,.nil,s=>s
 |_,_,_,_,.cons r t,s=>.cons r (Vals.append t s)
theorem Vals.take:∀{xs:List V} {us:List Value} (n:Nat),Vals xs us->Vals (xs.take n) (us.take n)
 |_,_,0,_=>.nil
 |_,_,_+1,.nil=>.nil
 |_,_,n+1,.cons r t=>.cons r (Vals.take n t)
theorem Vals.drop:∀{xs:List V} {us:List Value} (n:Nat),Vals xs us->Vals (xs.drop n) (us.drop n)
 |_,_,0,r=>r
 |_,_,_+1,.nil=>.nil
 |_,_,n+1,.cons _ t=>Vals.drop n t
def RelO:Option V->Option Value->Prop
 |some v,some u=>RelV v u
 |none,none=>True
 |_,_=>False
def KV{κ:Type}:List (κ×V)->List (κ×Value)->Prop:=Paired fun (p:κ×V) (q:κ×Value)=>p.1=q.1/\RelV p.2 q.2
def kV:Key->V
 | .inl i=>.int i
 | .inr x=>.str x
inductive HO where
 /-- a list -/
 |lst (xs:List V)
 /-- a tuple (never changes) -/
 |tup (xs:List V)
 /-- a dict whose keys are ints and texts;one whose keys are tuples of ints and texts (the empty one is both) -/
 |dK (kvs:List (Key×V)) | dT (kvs:List (List Key×V))
 /-- a set of ints: its members,its size -/
 |set (S:Int->Bool) (n:Nat)
 /-- an instance of the class at C,its dict at dx,its attributes -/
 |ins (C dx:Addr) (fs:List (Str×V))
 /-- the dict of the instance at x -/
 |own (x:Addr)
 /-- the dict of an exception -/
 |xd (fs:List (Str×V))
 /-- a bound method,f of x -/
 |met (f x:Addr)
 /-- a range object lo,lo+1,.. below hi -/
 |rng (lo hi:Int)
 /-- a thing that is known to the object (the script;a dict while a loop walks it): read,never written while it is so -/
 |frz (o:Obj) (u:HO)
 /-- a code object's table -/
 |tbl (ps:Array Value)
 /-- any other thing,by what is true of its one object (a def of one's own: SetO a S n:=HO.ext fun h=>..) -/
 |ext (φ:Heap->Prop)
abbrev Hp:=Addr->Option HO
variable {b:Addr} {u:HO}
def upd(H:Hp)(a:Addr)(o:HO):Hp:=fun b=>if b=a then some o else H b
theorem ac{H:Hp}{a:Addr}{o:HO}:upd H a o a=some o:=by unfold upd;rw [if_pos rfl]
theorem ao{H:Hp}{a:Addr}{o:HO}(h:b≠a):upd H a o b=H b:=by unfold upd;rw [if_neg h]
theorem Cc{H:Hp}{a:Addr}{o:HO}:upd (upd H a o) a u=upd H a u:=by funext b;unfold upd;split<;>rfl
theorem bw{H:Hp}{a:Addr}{o:HO}(h:H a=some o)(h':H b=some u)(d:o≠u):a≠b:=by intro e;subst e;rw [h] at h';exact d (Option.some.inj h')
theorem am{H:Hp}{a:Addr}{o:HO}(h:H a=some o)(h':H b=none):a≠b:=by intro e;subst e;rw [h] at h';cases h'
section
variable (P:Program) (w:World)
def ObjOk(H:Hp)(h:Heap)(a:Addr):HO->Prop
 | .lst xs=>xs.length<=sizeLine/\∃(its:List Value)(n:Nat),Vals xs its/\h.get? a=some {cls:=.type "list",data:=.seq its.toArray n}
 | .tup xs=>xs.length<=sizeLine/\∃its:List Value,Vals xs its/\IsTup h a its.toArray
 | .dK kvs=>kvs.length<=sizeLine/\(a==sysModules)=false/\∃vs,KV kvs vs/\h.DictOf (bC P w) a vs
 | .dT kvs=>kvs.length<=sizeLine/\(a==sysModules)=false/\∃xs:List (List Key×Addr×Value),
   Paired (fun (p:List Key×V) (q:List Key×Addr×Value)=>p.1=q.1/\H q.2.1=some (.tup (p.1.map kV))/\RelV p.2 q.2.2) kvs xs/\
   ∃o es ep,h.get? a=some o/\o.ExactDict/\o.data=.dict es ep/\es.toList=xs.map (entryOfKey (tupleKind (bC P w)))/\(xs.map (·.1)).Nodup
 | .set S n=>h.SetOf (intKind P w) a S n
 | .ins C dx fs=>H dx=some (.own a)/\fs.length<=1000/\dx≠a/\h.get? a=some (W.instObj C dx)/\
   ∃mA,h.Ns1 dx mA/\(∀f,RelO (fs.lookup f) (mA f))/\PySem.Within mA (fs.map (·.1))
 | .own _=>∃o,h.get? a=some o
 | .xd fs=>∃mA,h.Ns1 a mA/\∀f,RelO (fs.lookup f) (mA f)
 | .rng lo hi=>∃t u v,h.get? a=some {cls:=.type "range",data:=.fields #[.int lo t,.int hi u,.int 1 v]}
 | .frz o u=>h.get? a=some o/\ObjOk H h a u
 | .tbl ps=>h.get? a=some {cls:=.none,data:=.fields ps}
 | .met f x=>h.get? a=some (W.methodObj (.ref f) (.ref x))
 | .ext φ=>φ h/\(∃o,h.get? a=some o)/\∀h1 h2:Heap,φ h1->(∀o,h1.get? a=some o->h2.get? a=some o)->φ h2
def HOk(H:Hp)(h:Heap):Prop:=∀a o,H a=some o->ObjOk P w H h a o
end
section
variable {P:Program} {w:World} {H H':Hp} {h h':Heap} {a:Addr} {o:HO}
theorem ObjOk.lt(x:ObjOk P w H h a o):a<h.objs.size:=by
 cases o with
 |lst xs=>obtain ⟨_,_,_,_,e⟩:=x;exact zq7 e
 |tup xs=>obtain ⟨_,_,_,p⟩:=x;exact p.lt
 |dK kvs=>obtain ⟨_,_,_,_,o,_,_,e,_⟩:=x;exact zq7 e
 |dT kvs=>obtain ⟨_,_,_,_,o,_,_,e,_⟩:=x;exact zq7 e
 |set S n=>obtain ⟨o,_,_,_,e,_⟩:=x;exact zq7 e
 |ins C dx fs=>obtain ⟨_,_,_,e,_⟩:=x;exact zq7 e
 |own y=>obtain ⟨_,e⟩:=x;exact zq7 e
 |xd fs=>obtain ⟨_,⟨_,_,_,e,_⟩,_⟩:=x;exact zq7 e
 |rng lo hi=>obtain ⟨_,_,_,e⟩:=x;exact zq7 e
 |frz ob u=>obtain ⟨e,_⟩:=x;exact zq7 e
 |tbl ps=>exact zq7 (show h.get? a=some _ from x)
 |met f y=>exact zq7 (show h.get? a=some _ from x)
 |ext φ=>obtain ⟨_,⟨_,e⟩,_⟩:=x;exact zq7 e
theorem Paired.mapP{α β:Type}{F G:α->β->Prop}:∀{l₁:List α} {l₂:List β},Paired F l₁ l₂->(∀a b,F a b->G a b)->Paired G l₁ l₂
 |_,_,.nil,_=>.nil
 |_,_,.cons r t,f=>.cons (f _ _ r) (Paired.mapP t f)
theorem ObjOk.stay(x:ObjOk P w H h a o)(k:∀b u,(b=a\/H b=some (.own a))->h.get? b=some u->h'.get? b=some u)
  (ho:∀b,H b=some (.own a)->H' b=some (.own a)) (ht:∀b xs,H b=some (.tup xs)->H' b=some (.tup xs)):ObjOk P w H' h' a o:=by
 induction o with
 |lst xs=>obtain ⟨z,its,n,r,e⟩:=x;exact ⟨z,zAD its n r (k _ _ (.inl rfl) e)⟩
 |tup xs=>obtain ⟨z,its,r,ob,e,c⟩:=x;exact ⟨z,zn its r (zn ob (k _ _ (.inl rfl) e) c)⟩
 |dK kvs=>obtain ⟨z,y,vs,r,ob,es,ep,e,c⟩:=x;exact zAB z y (zn vs r (zAK ob es ep (k _ _ (.inl rfl) e) c))
 |dT kvs=>
  obtain ⟨z,y,xs,r,ob,es,ep,e,c⟩:=x;exact zAB z y (zn xs (Paired.mapP r fun p q z=>zAB z.1 (ht _ _ z.2.1) z.2.2) (zAK ob es ep (k _ _ (.inl rfl) e) c))
 |set S n=>obtain ⟨ob,es,ep,t,e,c⟩:=x;exact zAP ob es ep t (k _ _ (.inl rfl) e) c
 |ins C dx fs=>
  obtain ⟨d,z,ne,e,mA,⟨od,es,ep,e2,c⟩,r⟩:=x;exact zAI (ho _ d) z ne (k _ _ (.inl rfl) e) (zn mA (zAK od es ep (k _ _ (.inr d) e2) c) r)
 |own y=>obtain ⟨ob,e⟩:=x;exact ⟨ob,k _ _ (.inl rfl) e⟩
 |xd fs=>obtain ⟨mA,⟨od,es,ep,e,c⟩,r⟩:=x;exact zn mA (zAK od es ep (k _ _ (.inl rfl) e) c) r
 |rng lo hi=>obtain ⟨t,u,v,e⟩:=x;exact zAH t u v (k _ _ (.inl rfl) e)
 |frz ob u ih=>obtain ⟨e,q⟩:=x;exact ⟨k _ _ (.inl rfl) e,ih q⟩
 |tbl ps=>
  have e:h.get? a=some {cls:=.none,data:=.fields ps}:=x;show h'.get? a=some {cls:=.none,data:=.fields ps};exact k a _ (.inl rfl) e
 |met f y=>
  have e:h.get? a=some (W.methodObj (.ref f) (.ref y)):=x;show h'.get? a=some (W.methodObj (.ref f) (.ref y));exact k a _ (.inl rfl) e
 |ext φ=>obtain ⟨p,⟨o,e⟩,st⟩:=x;exact zAB (st _ _ p fun o q=>k _ _ (.inl rfl) q) ⟨o,k _ _ (.inl rfl) e⟩ st
theorem HOk.lt(x:HOk P w H h)(e:H a=some o):a<h.objs.size:=(x a o e).lt
theorem HOk.fresh(x:HOk P w H h)(e:h.objs.size<=a):H a=none:=by
 cases q:H a with
 |none=>rfl
 |some u=>exact absurd (dR (x.lt q) e) (nN _)
theorem HOk.kept(x:HOk P w H h)(k:∀b u,h.get? b=some u->h'.get? b=some u):HOk P w H h':=fun a o e=>(x a o e).stay (fun b u _ q=>k b u q) (fun _ q=>q) fun _ _ q=>q
theorem HOk.laid(x:HOk P w H h)(k:∀b u,h.get? b=some u->h'.get? b=some u)(hp:h.objs.size<=a)(new:ObjOk P w (upd H a o) h' a o):HOk P w (upd H a o) h':=fun b u e=>by
 have hn:=x.fresh hp
 by_cases hb:b=a
 ·subst hb;rw [ac] at e;cases e;exact new
 ·rw [ao hb] at e;exact (x b u e).stay (fun c v _ q=>k c v q) (fun c q=>by rw [ao (am q hn)];exact q) fun c xs q=>by rw [ao (am q hn)];exact q
end
def Rd(H:Hp)(a:Addr)(u:HO):Prop:=H a=some u\/∃o,H a=some (.frz o u)
theorem Rd.ok{P:Program}{w:World}{H:Hp}{h:Heap}{a:Addr}(r:Rd H a u)(x:HOk P w H h):ObjOk P w H h a u:=by
 rcases r with r | ⟨o,r⟩
 ·exact x a u r
 ·obtain ⟨_,q⟩:=x a _ r;exact q
def Mut:Option HO->Prop
 |some (.lst _)=>True
 |some (.dK _)=>True
 |some (.dT _)=>True
 |some (.set _ _)=>True
 |some (.ins _ _ _)=>True
 |some (.ext _)=>True
 |_=>False
section
variable {P:Program} {w:World} {H:Hp} {h h':Heap} {x e:Addr} {o':HO}
theorem HOk.write(ok:HOk P w H h)(mu:Mut (H x))(he:e=x\/H e=some (.own x))(k:∀b u,b≠e->h.get? b=some u->h'.get? b=some u)(heo:∃u,h'.get? e=some u)
  (new:ObjOk P w (upd H x o') h' x o'):HOk P w (upd H x o') h':=fun b u q=>by
 have nown:∀c y,H c=some (.own y)->c≠x:=fun c y r z=>by subst z;rw [r] at mu;exact mu
 have ntup:∀c xs,H c=some (.tup xs)->c≠x:=fun c xs r z=>by subst z;rw [r] at mu;exact mu
 by_cases hb:b=x
 ·subst hb;rw [ac] at q;cases q;exact new
 ·rw [ao hb] at q
  by_cases hbe:b=e
  ·have q':H b=some (.own x):=by
    rcases he with z | z
    ·exact absurd (hbe.trans z) hb
    ·rw [hbe];exact z
   rw [q] at q';cases q';obtain ⟨v,hv⟩:=heo;exact ⟨v,by rw [hbe];exact hv⟩
  ·refine (ok b u q).stay (fun c v hc r=>k c v ?_ r) (fun c r=>by rw [ao (nown c b r)];exact r) fun c xs r=>by rw [ao (ntup c xs r)];exact r
   rcases hc with rfl | hc
   ·exact hbe
   ·rintro rfl;rcases he with z | z
    ·exact nown c b hc z
    ·rw [hc] at z;cases z;exact hb rfl
end
structure Un(fs ex:List Addr)(H H':Hp)(h h':Heap):Prop where
 keep:∀b o,h.get? b=some o->H b=none->b∉fs->b∉ex->h'.get? b=some o
 slot:∀b o,h.get? b=some o->H b=none->b∈fs->b∉ex->∃sl,h'.get? b=some {o with slots:=sl}
 free:∀b o,h.get? b=some o->H b=none->b∉ex->H' b=none
 there:∀b o,h.get? b=some o->b∉ex->∃o',h'.get? b=some o'
 tups:∀b xs,H b=some (.tup xs)->H' b=some (.tup xs)
 frzs:∀b o u,H b=some (.frz o u)->H' b=some (.frz o u)
 tbls:∀b ps,H b=some (.tbl ps)->∃more,H' b=some (.tbl (ps++more))
section
variable {fs fs' ex ex':List Addr} {H H1 H2:Hp} {h h1 h2 h':Heap} {a x e:Addr} {o:HO}
theorem Un.any(u:Un fs ex H H1 h h1){ob:Obj}(q:h.get? b=some ob)(n:H b=none)(hx:b∉ex):∃sl,h1.get? b=some {ob with slots:=sl}:=by
 by_cases hb:b∈fs
 ·exact u.slot b ob q n hb hx
 ·exact ⟨ob.slots,u.keep b ob q n hb hx⟩
theorem Un.kept(k:∀b u,h.get? b=some u->h'.get? b=some u):Un fs ex H H h h':=
 ⟨fun b ob q _ _ _=>k b ob q,fun b ob q _ _ _=>⟨ob.slots,k b ob q⟩,fun _ _ _ n _=>n,fun b ob q _=>⟨ob,k b ob q⟩,fun _ _ q=>q,fun _ _ _ q=>q,fun _ ps q=>⟨#[],by rw [q];simp⟩⟩
theorem Un.refl:Un fs ex H H h h:=Un.kept fun _ _ q=>q
theorem Un.laid(k:∀b u,h.get? b=some u->h'.get? b=some u)(hp:h.objs.size<=a)(hn:H a=none):Un fs ex H (upd H a o) h h' where
 keep:=fun b u q _ _ _=>k b u q
 slot:=fun b u q _ _ _=>⟨u.slots,k b u q⟩
 free:=fun b u q n _=>by rw [ao (cx (dR (zq7 q) hp))];exact n
 there:=fun b u q _=>⟨u,k b u q⟩
 tups:=fun b xs q=>by rw [ao (am q hn)];exact q
 frzs:=fun b u xs q=>by rw [ao (am q hn)];exact q
 tbls:=fun b ps q=>⟨#[],by rw [ao (am q hn),q];simp⟩
theorem Un.write(mu:Mut (H x))(he:e=x\/H e=some (.own x))(k:∀b u,b≠e->h.get? b=some u->h'.get? b=some u)(heo:∃u,h'.get? e=some u):Un fs ex H (upd H x o) h h':=by
 have hx:∀b,H b=none->b≠x:=fun b n z=>by subst z;rw [n] at mu;exact mu
 have hb:∀b,H b=none->b≠e:=fun b n z=>by
  subst z;rcases he with r | r
  ·exact hx b n r
  ·rw [n] at r;cases r
 have hm:∀b u,H b=some u->¬Mut (some u)->b≠x:=fun b u q nm z=>by subst z;rw [q] at mu;exact nm mu
 refine ⟨fun b u q n _ _=>k b u (hb b n) q,fun b u q n _ _=>⟨u.slots,k b u (hb b n) q⟩,fun b u q n _=>by rw [ao (hx b n)];exact n,fun b u q _=>?_,
  fun b xs q=>by rw [ao (hm b _ q fun z=>z)];exact q,fun b u xs q=>by rw [ao (hm b _ q fun z=>z)];exact q,fun b ps q=>⟨#[],by rw [ao (hm b _ q fun z=>z),q];simp⟩⟩
 by_cases hbe:b=e
 ·subst hbe;exact heo
 ·exact ⟨u,k b u hbe q⟩
end
def trk(h:Heap)(H:Hp):List Addr:=(List.range h.objs.size).filter fun a=>(H a).isSome
def mR(h:Heap)(H:Hp):Heap:=W.hideAll h (trk h H)
theorem vm(h:Heap)(H:Hp):(mR h H).objs.size=h.objs.size:=W.hideAll_size _ _
theorem xA{h:Heap}{H:Hp}{o:Obj}(e:h.get? b=some o)(n:H b=none):(mR h H).get? b=some o:=
 W.hideAll_get _ e fun hm=>by have q:(H b).isSome=true:=(zq39.mp hm).2;rw [n] at q;simp at q
theorem Bg{h:Heap}{H:Hp}{o:Obj}(e:(mR h H).get? b=some o):h.get? b=some o/\H b=none:=by
 have e':h.get? b=some o:=W.of_hideAll (trk h H) e;refine ⟨e',?_⟩
 cases q:H b with
 |none=>rfl
 |some x=>have hm:b∈trk h H:=zq39.mpr ⟨zq40.mpr (zq7 e'),by simp [q]⟩;have z:(mR h H).get? b=none:=W.hideAll_none (trk h H) hm;rw [z] at e;cases e
def AK(g h:Heap)(L:Addr):List (Addr×Obj):=(List.range h.objs.size).filterMap fun a=>if a=L\/(g.get? a).isSome=true then none else (h.get? a).map fun o=>(a,o)
def ee(g h:Heap)(L d:Addr):List (Addr×Obj):=(AK g h L).filter fun p=>decide (p.1≠d)
end L2
namespace L2
structure Mod(K:W.Frag)(mg:Str->Option Value)(base:Heap):Prop where
 kin:K.In base
 glob:base.Ns mainGlobals mg
 blt:∃mb,base.Ns builtinsNs mb/\∀x:Str,x≠"__name__"->mb x=bootBuiltins x
 nolimit:base.NoLimit
structure Cx where
 prog:Program
 w:World
 K:W.Frag
 mg:Str->Option Value
 base:Heap
 A:Around
 N:List Str
 s₀:Shared
 H₀:Hp
 env:Env
 outer:List Env
 stack:List Env
 ex:List Addr
 fn:Str->Bool
 calm:Bool
 pn:List (Addr×Obj)
 xe:Value->Shared->Prop
def frs(l:List Env):List Addr:=l.filterMap (·.frame)
abbrev Cx.fs (X:Cx):List Addr:=frs X.outer
def Vis(sc:Scope)(x:Str):Prop:=sc.names.lookup x=some .local\/sc.names.lookup x=some .cell\/sc.names.lookup x=some .free
def Loc(sc:Scope)(x:Str):Prop:=sc.names.lookup x=some .local\/sc.names.lookup x=some .cell
def IJ(env:Env)(h:Heap)(m:Str->Option Value)(x:Str)(u:Value):Prop:=
 (env.kindOf x=some .local/\m x=some u)\/((env.kindOf x=some .cell\/env.kindOf x=some .free)/\∃c,env.cells.lookup x=some c/\h.IsCell c (some u))
structure Cx.Ok(X:Cx):Prop where
 mod:Mod X.K X.mg X.base
 kind:X.env.scope.kind=.function
 glob:X.env.globals=mainGlobals
 blt:X.env.builtins=builtinsNs
 above:X.s₀.heap.objs.size<=X.env.locals
 inj:∀x y c,X.env.cells.lookup x=some c->X.env.cells.lookup y=some c->x=y
 has:∀x,(X.env.kindOf x=some .cell\/X.env.kindOf x=some .free)->∃c,X.env.cells.lookup x=some c
 cab:∀x c,X.fn x=true->X.env.cells.lookup x=some c->X.s₀.heap.objs.size<=c
 hd:X.calm=true->X.A.handled=none
 frames:X.A.frames=some X.stack
 stk:X.stack=X.outer\/(X.stack=X.env::X.outer/\X.env.frame=some X.env.locals)
 exf:∀b∈X.ex,b≠X.env.locals/\∀x c,X.env.cells.lookup x=some c->c≠b
 bs:∀b o,X.base.get? b=some o->X.s₀.heap.get? b=some o/\X.H₀ b=none
 bsz:X.base.objs.size<=X.s₀.heap.objs.size
 noex:∀b o,X.base.get? b=some o->b∉X.ex
 exfs:∀b∈X.ex,b∉X.fs
 funs:X.s₀.heap.FunFrames X.base X.outer
 frf:∀b∈X.fs,X.H₀ b=none
structure Inv(X:Cx)(pins:List (Addr×Obj))(σ:List (Option V))(H:Hp)(s:Shared):Prop where
 ok:X.Ok
 os:s.os=X.s₀.os
 bare:AllBare s.gens
 base:Un X.fs X.ex X.H₀ H X.s₀.heap s.heap
 loc:∃m,s.heap.Ns X.env.locals m/\∀(i:Nat)(x:Str)(v:V),X.N[i]?=some x->σ[i]?=some (some v)->Vis X.env.scope x->∃u,RelV v u/\IJ X.env s.heap m x u
 cell:∀x c,X.env.cells.lookup x=some c->∃v,s.heap.IsCell c v
 free:H X.env.locals=none
 freeC:∀x c,X.env.cells.lookup x=some c->H c=none
 pin:∀p∈X.pn++pins,s.heap.get? p.1=some p.2/\H p.1=none/\p.1≠X.env.locals/\p.1∉X.fs/\∀v,p.2.data≠.cell v
 hok:HOk X.prog X.w H s.heap
 len:σ.length=X.N.length
section
variable {X:Cx} {pins:List (Addr×Obj)} {σ:List (Option V)} {H H':Hp} {s:Shared} {h':Heap}
theorem Cx.Ok.nofr(ok:X.Ok){b:Addr}{o:Obj}(e:X.base.get? b=some o):b∉X.fs:=fun hb=>by have:=(ok.funs.mem hb).1;rw [e] at this;cases this
theorem Inv.bs(I:Inv X pins σ H s):∀b o,X.base.get? b=some o->s.heap.get? b=some o/\H b=none:=fun b o e=>⟨I.base.keep b o (I.ok.bs b o e).1 (I.ok.bs b o e).2 (I.ok.nofr e) (I.ok.noex b o e),I.base.free b o (I.ok.bs b o e).1 (I.ok.bs b o e).2 (I.ok.noex b o e)⟩
theorem Inv.bk(I:Inv X pins σ H s):∀b o,X.base.get? b=some o->s.heap.get? b=some o:=fun b o e=>(I.bs b o e).1
theorem Inv.mod(I:Inv X pins σ H s):Mod X.K X.mg X.base:=I.ok.mod
theorem Inv.kIn(I:Inv X pins σ H s):X.K.In s.heap:=I.ok.mod.kin.keeps I.bk
theorem Inv.lt(I:Inv X pins σ H s):X.env.locals<s.heap.objs.size:=let ⟨_,hn,_⟩:=I.loc;hn.lt
theorem Inv.sz(I:Inv X pins σ H s):X.s₀.heap.objs.size<=s.heap.objs.size:=cL I.ok.above (nO I.lt)
theorem Inv.nofs(I:Inv X pins σ H s){a:Addr}(h:s.heap.objs.size<=a):a∉X.fs:=fun hb=>by obtain ⟨_,o,ho,_⟩:=I.ok.funs.mem hb;exact absurd (dR (zq7 ho) (cL I.sz h)) (nN _)
theorem Inv.cne(I:Inv X pins σ H s):∀x c,X.env.cells.lookup x=some c->c≠X.env.locals:=fun x c e z=>by obtain ⟨v,o,ho,hd⟩:=I.cell x c e;obtain ⟨m,⟨o',es,ep,ho',hd',_⟩,_⟩:=I.loc;rw [z,ho'] at ho;cases ho;rw [hd'] at hd;cases hd
theorem Inv.funs(I:Inv X pins σ H s):s.heap.FunFrames X.base X.outer:=by
 have all:∀(l:List Env),(∀b∈frs l,b∈X.fs)->X.s₀.heap.FunFrames X.base l->s.heap.FunFrames X.base l:=by
  intro l
  induction l with
  |nil=>intro _ _;trivial
  |cons env r ih=>intro hs hl;obtain ⟨hk,⟨L,o,hf,hn,ho,hd⟩,hr⟩:=hl;have hL:L∈X.fs:=hs L (by unfold frs;rw [zX,hf];exact eD);obtain ⟨sl,e⟩:=I.base.slot L o ho (I.ok.frf L hL) hL fun z=>I.ok.exfs L z hL;exact zAB hk (zAE L _ hf hn e hd) (ih (fun b hb=>hs b (by unfold frs;rw [zX,hf];exact zq6 _ hb)) hr)
 exact all X.outer (fun _ hb=>hb) I.ok.funs
theorem Inv.stack(I:Inv X pins σ H s):s.heap.FunFrames X.base X.stack:=by
 rcases I.ok.stk with e | ⟨e,hf⟩
 ·rw [e];exact I.funs
 ·rw [e];obtain ⟨m,hn,_⟩:=I.loc;refine .cons (by rw [I.ok.kind];decide) hf hn ?_ I.funs;exact Heap.get?_none_of_le (cL I.ok.bsz I.ok.above)
theorem Inv.stkSub(I:Inv X pins σ H s):∀b∈frs X.stack,b∈X.env.locals::X.fs:=fun b hb=>by
 rcases I.ok.stk with e | ⟨e,hf⟩
 ·rw [e] at hb;exact zq6 _ hb
 ·rw [e] at hb;unfold frs at hb;rw [zX,hf] at hb;exact hb
theorem Inv.stkFree(I:Inv X pins σ H s):∀b∈frs X.stack,H b=none:=fun b hb=>by
 rcases zq5.mp (I.stkSub b hb) with e | hb
 ·rw [e];exact I.free
 ·obtain ⟨_,o,ho,_⟩:=I.ok.funs.mem hb;exact I.base.free b o ho (I.ok.frf b hb) fun z=>I.ok.exfs b z hb
theorem Inv.step{g':Array GenState}{t':Nat}{d':Drawn}{ch:List Addr}(I:Inv X pins σ H s)
  (hch:∀b∈ch,(b∈X.ex\/X.s₀.heap.objs.size<=b)/\b≠X.env.locals/\(∀x c,X.env.cells.lookup x=some c->c≠b)/\∀p∈X.pn++pins,p.1≠b)
  (keep:∀b o,b≠X.env.locals->b∉X.fs->b∉ch->s.heap.get? b=some o->H b=none->h'.get? b=some o)
  (slot:∀b o,b≠X.env.locals->b∈X.fs->b∉ch->s.heap.get? b=some o->H b=none->∃sl,h'.get? b=some {o with slots:=sl}) (free:∀b o,b∉ch->s.heap.get? b=some o->H b=none->H' b=none)
  (there:∀b o,b∉ch->s.heap.get? b=some o->∃o',h'.get? b=some o')
  (tups:∀b xs,H b=some (.tup xs)->H' b=some (.tup xs)) (frzs:∀b o u,H b=some (.frz o u)->H' b=some (.frz o u)) (tbls:∀b ps,H b=some (.tbl ps)->∃more,H' b=some (.tbl (ps++more)))
  (ns:∀m,s.heap.Ns X.env.locals m->h'.Ns X.env.locals m) (hok:HOk X.prog X.w H' h') (hg:AllBare g') :
  Inv X pins σ H' {s with heap:=h',gens:=g',drawn:=d',toks:=t'}:=by
 have neL:∀b o,X.s₀.heap.get? b=some o->b≠X.env.locals:=fun b o e=>cx (dR (zq7 e) I.ok.above);have neC:∀b o,X.s₀.heap.get? b=some o->b∉X.ex->b∉ch:=fun b o e hx hb=>by
  rcases (hch b hb).1 with z | z
  ·exact hx z
  ·exact absurd (dR (zq7 e) z) (nN _)
 have cellK:∀x c,X.env.cells.lookup x=some c->∀v,s.heap.IsCell c v->h'.IsCell c v:=fun x c e v ⟨o,ho,hd⟩=>by
  have nch:c∉ch:=fun z=>(hch c z).2.2.1 x c e rfl
  by_cases hc:c∈X.fs
  ·obtain ⟨sl,q⟩:=slot c o (I.cne x c e) hc nch ho (I.freeC x c e);exact zn _ q hd
  ·exact zn o (keep c o (I.cne x c e) hc nch ho (I.freeC x c e)) hd
 refine ⟨I.ok,I.os,hg,⟨fun b o e n hb hx=>?_,fun b o e n hb hx=>?_,fun b o e n hx=>?_,fun b o e hx=>?_,fun b xs e=>tups b xs (I.base.tups b xs e),fun b o xs e=>frzs b o xs (I.base.frzs b o xs e),fun b ps e=>?_⟩,?_,fun x c e=>?_,?_,fun x c e=>?_,fun p hp=>?_,hok,I.len⟩
 ·exact keep b o (neL b o e) hb (neC b o e hx) (I.base.keep b o e n hb hx) (I.base.free b o e n hx)
 ·obtain ⟨sl,e1⟩:=I.base.slot b o e n hb hx;obtain ⟨sl',e2⟩:=slot b _ (neL b o e) hb (neC b o e hx) e1 (I.base.free b o e n hx);exact ⟨sl',e2⟩
 ·obtain ⟨o',e1⟩:=I.base.there b o e hx;exact free b o' (neC b o e hx) e1 (I.base.free b o e n hx)
 ·obtain ⟨o',e1⟩:=I.base.there b o e hx;exact there b o' (neC b o e hx) e1
 ·obtain ⟨m1,e1⟩:=I.base.tbls b ps e;obtain ⟨m2,e2⟩:=tbls b _ e1;exact ⟨m1++m2,by rw [e2,Array.append_assoc]⟩
 ·obtain ⟨m,hn,hl⟩:=I.loc;refine zn m (ns m hn) fun i x v e1 e2 e3=>?_;obtain ⟨u,r,l⟩:=hl i x v e1 e2 e3;refine zn u r ?_;rcases l with l | ⟨k,c,e,z⟩
  ·exact .inl l
  ·exact .inr ⟨k,zn c e (cellK x c e _ z)⟩
 ·obtain ⟨v,z⟩:=I.cell x c e;exact ⟨v,cellK x c e v z⟩
 ·obtain ⟨m,⟨o,_,_,ho,_⟩,_⟩:=I.loc;exact free _ o (fun z=>(hch _ z).2.1 rfl) ho I.free
 ·obtain ⟨v,o,ho,hd⟩:=I.cell x c e;exact free c o (fun z=>(hch c z).2.2.1 x c e rfl) ho (I.freeC x c e)
 ·obtain ⟨e,n,ne,nf,d⟩:=I.pin p hp;have nch:p.1∉ch:=fun z=>(hch p.1 z).2.2.2 p hp rfl;exact zAI (keep p.1 p.2 ne nf nch e n) (free p.1 p.2 nch e n) ne nf d
theorem Inv.un{t':Nat}(I:Inv X pins σ H s)(u:Un X.fs [] H H' s.heap h')(hok:HOk X.prog X.w H' h'):Inv X pins σ H' {s with heap:=h',toks:=t'}:=by obtain ⟨m,⟨o,es,ep,ho,r⟩,_⟩:=id I.loc;obtain ⟨sl,hL⟩:=u.any ho I.free Jz;exact I.step (g':=s.gens) (d':=s.drawn) (ch:=[]) (fun _ z=>nomatch z) (fun b o _ hb _ e n=>u.keep b o e n hb Jz) (fun b o _ hb _ e n=>u.slot b o e n hb Jz) (fun b o _ e n=>u.free b o e n Jz) (fun b o _ e=>u.there b o e Jz) u.tups u.frzs u.tbls (fun m' hm=>by obtain ⟨o',es',ep',ho',r'⟩:=hm;rw [ho] at ho';cases ho';exact zAK _ es' ep' hL r') hok I.bare
theorem Inv.call{g':Array GenState}{t':Nat}{d':Drawn}{ch:List Addr}(I:Inv X pins σ H s)(u:Un (frs X.stack) ch H H' s.heap h')(hok:HOk X.prog X.w H' h')(hg:AllBare g')
  (hch:∀b∈ch,(b∈X.ex\/X.s₀.heap.objs.size<=b)/\b≠X.env.locals/\(∀x c,X.env.cells.lookup x=some c->c≠b)/\∀p∈X.pn++pins,p.1≠b) :
  Inv X pins σ H' {s with heap:=h',gens:=g',drawn:=d',toks:=t'}:=by
 obtain ⟨m,⟨o,es,ep,ho,r⟩,_⟩:=id I.loc;obtain ⟨sl,hL⟩:=u.any ho I.free fun z=>(hch _ z).2.1 rfl;exact I.step (ch:=ch) hch (fun b o hL hb hc e n=>u.keep b o e n (fun z=>(zq5.mp (I.stkSub b z)).elim hL hb) hc) (fun b o _ _ hc e n=>u.any e n hc) (fun b o hc e n=>u.free b o e n hc) (fun b o hc e=>u.there b o e hc) u.tups u.frzs u.tbls (fun m' hm=>by obtain ⟨o',es',ep',ho',r'⟩:=hm;rw [ho] at ho';cases ho';exact zAK _ es' ep' hL r') hok hg
theorem Inv.turned{t':Nat}{it:Addr}(I:Inv X pins σ H s)(k:∀b o,b≠it->s.heap.get? b=some o->h'.get? b=some o)(hn:H it=none)(hL:it≠X.env.locals)
  (h1:it∈X.ex\/X.s₀.heap.objs.size<=it) (h2:∀x c,X.env.cells.lookup x=some c->c≠it) (h3:∀p∈X.pn++pins,p.1≠it):Inv X pins σ H {s with heap:=h',toks:=t'}:=by
 have nit:∀b u,H b=some u->b≠it:=fun b u e z=>by rw [z,hn] at e;cases e
 refine I.step (g':=s.gens) (d':=s.drawn) (ch:=[it]) (fun b hb=>?_) (fun b o _ _ hc e _=>k b o (fun z=>hc (by simp [z])) e) (fun b o _ _ hc e _=>⟨o.slots,k b o (fun z=>hc (by simp [z])) e⟩) (fun _ _ _ _ n=>n)
  (fun b o hc e=>⟨o,k b o (fun z=>hc (by simp [z])) e⟩) (fun _ _ e=>e) (fun _ _ _ e=>e) (fun b ps e=>⟨#[],by rw [e];simp⟩) (fun m hm=>?_) (fun b u e=>?_) I.bare
 ·have e:b=it:=by simpa using hb
  subst e;exact zAG h1 hL h2 h3
 ·obtain ⟨o,es,ep,ho,r⟩:=hm;exact zAK o es ep (k _ o (Ne.symm hL) ho) r
 ·refine (I.hok b u e).stay (fun c v hc q=>k c v ?_ q) (fun _ q=>q) fun _ _ q=>q;rcases hc with z | z
  ·rw [z];exact nit b u e
  ·exact nit c _ z
theorem Inv.tok(I:Inv X pins σ H s)(t:Nat):Inv X pins σ H {s with toks:=t}:=I.un (h':=s.heap) (t':=t) Un.refl I.hok
theorem Inv.kept{t':Nat}(I:Inv X pins σ H s)(k:∀b u,s.heap.get? b=some u->h'.get? b=some u):Inv X pins σ H {s with heap:=h',toks:=t'}:=I.un (Un.kept k) (I.hok.kept k)
theorem Inv.laid{a:Addr}{o:HO}{t':Nat}(I:Inv X pins σ H s)(k:∀b u,s.heap.get? b=some u->h'.get? b=some u)(hp:s.heap.objs.size<=a)(new:ObjOk X.prog X.w (upd H a o) h' a o):
  Inv X pins σ (upd H a o) {s with heap:=h',toks:=t'}:=I.un (Un.laid k hp (I.hok.fresh hp)) (I.hok.laid k hp new)
theorem Inv.write{x e:Addr}{o:HO}{t':Nat}(I:Inv X pins σ H s)(mu:Mut (H x))(he:e=x\/H e=some (.own x))(k:∀b u,b≠e->s.heap.get? b=some u->h'.get? b=some u)(heo:∃u,h'.get? e=some u)
  (new:ObjOk X.prog X.w (upd H x o) h' x o):Inv X pins σ (upd H x o) {s with heap:=h',toks:=t'}:=I.un (Un.write mu he k heo) (I.hok.write mu he k heo new)
theorem Inv.pins_of{pins':List (Addr×Obj)}(I:Inv X pins σ H s)(h:∀p∈pins',s.heap.get? p.1=some p.2/\H p.1=none/\p.1≠X.env.locals/\p.1∉X.fs/\∀v,p.2.data≠.cell v):Inv X pins' σ H s:=
 ⟨I.ok,I.os,I.bare,I.base,I.loc,I.cell,I.free,I.freeC,fun p hp=>(zq11.mp hp).elim (fun z=>I.pin p (jD _ z)) (h p),I.hok,I.len⟩
theorem pD{N:List Str}(hN:N.Nodup){i j:Nat}{x:Str}(a:N[i]?=some x)(b:N[j]?=some x):i=j:=by obtain ⟨h1,e1⟩:=zq10.mp a;obtain ⟨h2,e2⟩:=zq10.mp b;exact (List.getElem_inj hN).mp (e1.trans e2.symm)
theorem wn{M:Model}{A:Around}{E:Value->Shared->Prop}{i:Nat}{x:Str}{v:V}{u:Value}{Q:Unit->Shared->Prop}(I:Inv X pins σ H s)(hN:X.N.Nodup)(hi:X.N[i]?=some x)(hx:Loc X.env.scope x)(r:RelV v u)
  (h:∀s',Inv X pins (σ.set i (some v)) H s'->(∃a,Heap.SameBut a s.heap s'.heap/\(a=X.env.locals\/X.env.cells.lookup x=some a))->Q () s') (hf:X.fn x=true\/X.env.scope.names.lookup x=some .local:=by first | exact .inl rfl | exact .inr rfl | assumption):wpAny M A (storeName X.env x u) Q E s:=by
 obtain ⟨m,hn,hl⟩:=id I.loc;have hcls:(X.env.scope.kind==.class || (X.env.scope.kind==.module&&X.env.locals != X.env.globals))=false:=by rw [I.ok.kind];rfl
 have hiσ:i<σ.length:=by rw [I.len];exact (zq10.mp hi).1
 have cne:=I.cne;have tracked:∀{a:Addr} {h':Heap},(∃o,s.heap.get? a=some o/\H a=none)->Heap.SameBut a s.heap h'->HOk X.prog X.w H h':=fun {a h'} ha hs b ob e=>by
  obtain ⟨_,_,hfree⟩:=ha;refine (I.hok b ob e).stay (fun c w' hc q=>(hs.2 c ?_).trans q) (fun _ q=>q) fun _ _ q=>q;rintro rfl;rcases hc with rfl | hc
  ·rw [hfree] at e;cases e
  ·rw [hfree] at hc;cases hc
 rcases hx with hk | hk
 ·refine wpAny_storeName_local hk hn (fun h' hn' hs=>?_) hcls;obtain ⟨oL,_,_,hoL,_⟩:=id hn;refine h _ ⟨I.ok,I.os,I.bare,⟨fun b o e n hb hx=>?_,fun b o e n hb hx=>?_,I.base.free,fun b o e hx=>?_,I.base.tups,I.base.frzs,I.base.tbls⟩,zn _ hn' fun j y v' e1 e2 e3=>?_,fun y c e=>?_,I.free,I.freeC,fun p hp=>?_,tracked (zn oL hoL I.free) hs,by simpa using I.len⟩ (zn _ hs (.inl rfl))
  ·exact (hs.2 b (cx (dR (zq7 e) I.ok.above))).trans (I.base.keep b o e n hb hx)
  ·obtain ⟨sl,e1⟩:=I.base.slot b o e n hb hx;exact ⟨sl,(hs.2 b (cx (dR (zq7 e) I.ok.above))).trans e1⟩
  ·obtain ⟨o',e1⟩:=I.base.there b o e hx;exact ⟨o',(hs.2 b (cx (dR (zq7 e) I.ok.above))).trans e1⟩
  ·by_cases hj:j=i
   ·subst hj;rw [hi] at e1;cases e1;rw [Av hiσ] at e2
    cases e2
    exact zn u r (.inl ⟨hk,Jz⟩)
   ·rw [wH (Ne.symm hj)] at e2;obtain ⟨u',r',q⟩:=hl j y v' e1 e2 e3;refine zn u' r' ?_;rcases q with ⟨k,e⟩ | ⟨k,c,e,z⟩
    ·refine .inl ⟨k,?_⟩;have:y≠x:=fun e=>hj (pD hN e1 (e ▸ hi));simp [this,e]
    ·exact .inr ⟨k,zn c e (z.sameBut hs (cne y c e))⟩
  ·obtain ⟨w',z⟩:=I.cell y c e;exact ⟨w',z.sameBut hs (cne y c e)⟩
  ·obtain ⟨e,n,ne,nf,d⟩:=I.pin p hp;exact zAI ((hs.2 p.1 ne).trans e) n ne nf d
 ·have hfn:X.fn x=true:=by
   rcases hf with z | z
   ·exact z
   ·rw [z] at hk;cases hk
  obtain ⟨c,hc⟩:=I.ok.has x (.inl hk);obtain ⟨w',z⟩:=I.cell x c hc;refine wpAny_storeName_cell I.ok.kind hk hc z (fun h' hc' hs=>?_);obtain ⟨oc,hoc,hocd⟩:=id z;refine h {s with heap:=h'} ⟨I.ok,I.os,I.bare,⟨fun b o e n hb hx=>?_,fun b o e n hb hx=>?_,I.base.free,fun b o e hx=>?_,I.base.tups,I.base.frzs,I.base.tbls⟩,zn m (hn.sameBut hs (Ne.symm (cne x c hc))) fun j y v' e1 e2 e3=>?_,fun y c' e=>?_,I.free,I.freeC,fun p hp=>?_,tracked (zn oc hoc (I.freeC x c hc)) hs,by simpa using I.len⟩ (zn c hs (.inr hc))
  ·exact (hs.2 b (cx (dR (zq7 e) (I.ok.cab x c hfn hc)))).trans (I.base.keep b o e n hb hx)
  ·obtain ⟨sl,e1⟩:=I.base.slot b o e n hb hx;exact ⟨sl,(hs.2 b (cx (dR (zq7 e) (I.ok.cab x c hfn hc)))).trans e1⟩
  ·obtain ⟨o',e1⟩:=I.base.there b o e hx;exact ⟨o',(hs.2 b (cx (dR (zq7 e) (I.ok.cab x c hfn hc)))).trans e1⟩
  ·by_cases hj:j=i
   ·subst hj;rw [hi] at e1;cases e1;rw [Av hiσ] at e2
    cases e2
    exact zn u r (.inr ⟨.inl hk,zn c hc hc'⟩)
   ·rw [wH (Ne.symm hj)] at e2;obtain ⟨u',r',q⟩:=hl j y v' e1 e2 e3;refine zn u' r' ?_;rcases q with q | ⟨k,c',e,z'⟩
    ·exact .inl q
    ·refine .inr ⟨k,zn c' e (z'.sameBut hs ?_)⟩;rintro rfl;exact hj (pD hN e1 (I.ok.inj _ _ _ e hc ▸ hi))
  ·by_cases hcc:c'=c
   ·subst hcc;exact ⟨_,hc'⟩
   ·obtain ⟨w2,z2⟩:=I.cell y c' e;exact ⟨w2,z2.sameBut hs hcc⟩
  ·obtain ⟨e,n,ne,nf,d⟩:=I.pin p hp;refine zAI ((hs.2 p.1 ?_).trans e) n ne nf d;intro q;rw [q,hoc] at e;have q':oc=p.2:=Option.some.inj e;exact d w' (by rw [<- q'];exact hocd)
theorem qm{M:Model}{A:Around}{E:Value->Shared->Prop}{i:Nat}{x:Str}{v:V}{u:Value}{Q:Unit->Shared->Prop}(I:Inv X pins σ H s)(hN:X.N.Nodup)(hi:X.N[i]?=some x)(hx:Loc X.env.scope x)(r:RelV v u)
  (h:∀s',Inv X pins (σ.set i (some v)) H s'->Q () s') (hf:X.fn x=true\/X.env.scope.names.lookup x=some .local:=by first | exact .inl rfl | exact .inr rfl | assumption):wpAny M A (storeName X.env x u) Q E s:=
 wn I hN hi hx r (fun s' I' _=>h s' I') hf
theorem Inv.call'{s':Shared}{ch:List Addr}(I:Inv X pins σ H s)(ho:s'.os=s.os)(u:Un (frs X.stack) ch H H' s.heap s'.heap)(hok:HOk X.prog X.w H' s'.heap)(hg:AllBare s'.gens)
  (hch:∀b∈ch,(b∈X.ex\/X.s₀.heap.objs.size<=b)/\b≠X.env.locals/\(∀x c,X.env.cells.lookup x=some c->c≠b)/\∀p∈X.pn++pins,p.1≠b):Inv X pins σ H' s':=by
 obtain ⟨h',g',d',t',o'⟩:=s';have e:o'=s.os:=ho;subst e;exact I.call (g':=g') (t':=t') (d':=d') u hok hg hch
end
abbrev XK:=Value->Option Addr->Hp->Prop
abbrev St:=List (Option V)
abbrev VK:=V->Hp->Prop
abbrev TE:=St->Hp->VK->Prop
abbrev TT:=St->Hp->(Bool->Hp->Prop)->Prop
abbrev TA:=St->Hp->(List V->Hp->Prop)->Prop
structure dm where
 nx:St->Hp->Prop
 rt:VK
 bk:St->Hp->Prop:=fun _ _=>False
 ct:St->Hp->Prop:=fun _ _=>False
abbrev TS:=dm->St->Hp->Prop
def EP(X:Cx)(pins:List (Addr×Obj))(σ:St)(Q:VK)(u:Value)(s':Shared):Prop:=∃v H',Inv X pins σ H' s'/\RelV v u/\Q v H'
def TP(X:Cx)(pins:List (Addr×Obj))(σ:St)(Q:Bool->Hp->Prop)(b:Bool)(s':Shared):Prop:=∃H',Inv X pins σ H' s'/\Q b H'
def AP(X:Cx)(pins:List (Addr×Obj))(σ:St)(Q:List V->Hp->Prop)(us:List Value)(s':Shared):Prop:=∃vs H',Inv X pins σ H' s'/\Vals vs us/\Q vs H'
def SP(X:Cx)(pins:List (Addr×Obj))(D:dm)(f:Flow)(s':Shared):Prop:=
 match f with
 | .next=>∃σ' H',Inv X pins σ' H' s'/\D.nx σ' H'
 | .brk=>∃σ' H',Inv X pins σ' H' s'/\D.bk σ' H'
 | .cont=>∃σ' H',Inv X pins σ' H' s'/\D.ct σ' H'
 | .ret u=>∃v σ' H',Inv X pins σ' H' s'/\RelV v u/\D.rt v H'
def PE(X:Cx)(e:Expr)(t:TE):Prop:=
 ∀(pins:List (Addr×Obj)) (s:Shared) (σ:St) (H:Hp) (Q:VK),Inv X pins σ H s->t σ H Q->wpAny (model X.prog X.w) X.A (eval e X.env) (EP X pins σ Q) X.xe s
def PT(X:Cx)(e:Expr)(t:TT):Prop:=
 ∀(pins:List (Addr×Obj)) (s:Shared) (σ:St) (H:Hp) (Q:Bool->Hp->Prop),Inv X pins σ H s->t σ H Q->wpAny (model X.prog X.w) X.A (isTrue e X.env (eval e X.env)) (TP X pins σ Q) X.xe s
def PW(X:Cx)(e:Expr)(t:TT):Prop:=
 ∀(whole:Sem Value)(pins:List (Addr×Obj)) (s:Shared) (σ:St) (H:Hp) (Q:Bool->Hp->Prop),Inv X pins σ H s->t σ H Q->wpAny (model X.prog X.w) X.A (isTrue e X.env whole) (TP X pins σ Q) X.xe s
theorem PW.pt{X:Cx}{e:Expr}{t:TT}(h:PW X e t):PT X e t:=h _
def PA(X:Cx)(es:List Expr)(t:TA):Prop:=
 ∀(pos:Pos)(pins:List (Addr×Obj)) (s:Shared) (σ:St) (H:Hp) (Q:List V->Hp->Prop),Inv X pins σ H s->t σ H Q->wpAny (model X.prog X.w) X.A (spliced (backTo pos (starEach es X.env))) (AP X pins σ Q) X.xe s
def PS(X:Cx)(st:Stmt)(t:TS):Prop:=
 ∀(pins:List (Addr×Obj)) (s:Shared) (σ:St) (H:Hp) (D:dm),Inv X pins σ H s->t D σ H->wpAny (model X.prog X.w) X.A (exec st X.env) (SP X pins D) X.xe s
def PSs(X:Cx)(st:List Stmt)(t:TS):Prop:=
 ∀(pins:List (Addr×Obj)) (s:Shared) (σ:St) (H:Hp) (D:dm),Inv X pins σ H s->t D σ H->wpAny (model X.prog X.w) X.A (execs st X.env) (SP X pins D) X.xe s
theorem thn{α:Type}{t:Sem α}{Q Q':α->Shared->Prop}{M:Model}{A:Around}{E:Value->Shared->Prop}{s:Shared}(h:wpAny M A t Q E s)(hQ:∀a s,Q a s->Q' a s):wpAny M A t Q' E s:=wpAny_mono h hQ fun _ _ x=>x
end L2
namespace L2
variable {u:Value} {x:Str}
section
variable {X:Cx}
theorem bin{a b:Expr}{ta tb:TE}(ha:PE X a ta)(hb:PE X b tb){pins:List (Addr×Obj)}{s:Shared}{σ:St}{H:Hp}{R:V->V->Hp->Prop}(I:Inv X pins σ H s)(h:ta σ H fun x H1=>tb σ H1 fun y H2=>R x y H2)
  {α:Type} {Q:α->Shared->Prop} {f:Value->Value->Sem α}
  (hf:∀v u s2 x y H2,Inv X pins σ H2 s2->RelV x v->RelV y u->R x y H2->wpAny (model X.prog X.w) X.A (f v u) Q X.xe s2) :
  wpAny (model X.prog X.w) X.A (eval a X.env) (fun v s₁=>wpAny (model X.prog X.w) X.A (eval b X.env) (fun u s₂=>wpAny (model X.prog X.w) X.A (f v u) Q X.xe s₂) X.xe s₁) X.xe s:=by
 refine thn (ha pins s σ H _ I h) fun v s1 hhx=>?_;obtain ⟨x,H1,I1,r1,q1⟩:=hhx;refine thn (hb pins s1 σ H1 _ I1 q1) fun u s2 hhx=>?_;obtain ⟨y,H2,I2,r2,q2⟩:=hhx;exact hf v u s2 x y H2 I2 r1 r2 q2
def Gy(i:Nat):TE:=fun σ H Q=>∃v,σ[i]?=some (some v)/\Q v H
def tC(v:V):TE:=fun _ H Q=>Q v H
theorem EO{i:Nat}{pos:Pos}(hN:X.N[i]?=some x)(hv:Vis X.env.scope x)(hd:(x==("__debug__":Str))=false:=by decide) (hcd:(x==("__classdict__":Str))=false:=by decide):PE X (.Name x pos) (Gy i):=by
 intro pins s σ H Q I h;obtain ⟨v,e,h⟩:=h;obtain ⟨m,hn,hl⟩:=I.loc;obtain ⟨u,r,l⟩:=hl i x v hN e hv;have fin:EP X pins σ Q u s:=zAA v H I r h
 rcases l with ⟨hk,hm⟩ | ⟨hk,c,hc,hcell⟩
 ·exact wpAny_Name (wpAny_loadName_local I.ok.kind hk hn hm fin) hd
 ·rcases hk with hk | hk
  ·exact wpAny_Name (wpAny_loadName_cell I.ok.kind hk hc hcell fin) hd
  ·exact wpAny_Name (wpAny_loadName_free I.ok.kind hk hc hcell fin hcd) hd
theorem yp{i j pos}:PE X (.Constant (.int i) j pos) (tC (.int i)):=fun _ _ _ H _ I h=>wpAny_Constant_int (zAA (.int i) H (I.tok _) ⟨_,rfl⟩ h)
theorem CB{b j pos}:PE X (.Constant (.bool b) j pos) (tC (.bl b)):=fun _ _ _ H _ I h=>Constant_bool (zAA (.bl b) H I rfl h)
theorem yt{j pos}:PE X (.Constant .none j pos) (tC .non):=fun _ _ _ H _ I h=>Constant_none (zAA .non H I rfl h)
theorem yu{x j pos}:PE X (.Constant (.str x) j pos) (tC (.str x)):=fun _ _ _ H _ I h=>Calls.Constant_str (zAA (.str x) H (I.tok _) ⟨_,rfl⟩ h)
def Gl(X:Cx)(x:Str):Prop:=X.env.kindOf x=some .globalImplicit
theorem iB{E:Value->Shared->Prop}{pins:List (Addr×Obj)}{s:Shared}{σ:St}{H:Hp}{pos:Pos}{Q:Value->Shared->Prop}(I:Inv X pins σ H s)(hg:Gl X x)(hm:X.mg x=some u)(h:Q u s)
 (hd:(x==("__debug__":Str))=false:=by decide):wpAny (model X.prog X.w) X.A (eval (.Name x pos) X.env) Q E s:=
 Calls.Name_function_global I.ok.kind hg (Calls.loadGlobal_global (by rw [I.ok.glob];exact I.mod.glob.keeps I.bk) hm h) hd
theorem dZ{E:Value->Shared->Prop}{pins:List (Addr×Obj)}{s:Shared}{σ:St}{H:Hp}{pos:Pos}{Q:Value->Shared->Prop}(I:Inv X pins σ H s)(hg:Gl X x)(hm:X.mg x=none)(hv:bootBuiltins x=some u)(h:Q u s)
 (hn:x≠"__name__":=by decide) (hd:(x==("__debug__":Str))=false:=by decide):wpAny (model X.prog X.w) X.A (eval (.Name x pos) X.env) Q E s:=by
 obtain ⟨mb,h1,h2⟩:=I.mod.blt;exact Calls.Name_function_global I.ok.kind hg (Calls.loadGlobal_builtin (by rw [I.ok.glob];exact I.mod.glob.keeps I.bk) hm (by rw [I.ok.blt];exact h1.keeps I.bk) ((h2 x hn).trans hv) h) hd
theorem BB{v:V}{pos:Pos}(hg:Gl X x)(hm:X.mg x=some u)(r:RelV v u)(hd:(x==("__debug__":Str))=false:=by decide):PE X (.Name x pos) (tC v):=
 fun _ _ _ H _ I h=>iB I hg hm (zAA v H I r h) hd
theorem Bz{v:V}{pos:Pos}(hg:Gl X x)(hm:X.mg x=none)(hv:bootBuiltins x=some u)(r:RelV v u)(hn:x≠"__name__":=by decide) (hd:(x==("__debug__":Str))=false:=by decide):PE X (.Name x pos) (tC v):=
 fun _ _ _ H _ I h=>dZ I hg hm hv (zAA v H I r h) hn hd
variable {a b:Expr} {ta tb:TE} {pos:Pos}
def PC(X:Cx)(op:CmpOp)(a b:Expr)(t:TE):Prop:=
 ∀(pins:List (Addr×Obj)) (s:Shared) (σ:St) (H:Hp) (Q:VK),Inv X pins σ H s->t σ H Q->
  wpAny (model X.prog X.w) X.A (eval a X.env) (fun v s₁=>wpAny (model X.prog X.w) X.A (eval b X.env) (fun u s₂=>wpAny (model X.prog X.w) X.A (compareOp op v u) (EP X pins σ Q) X.xe s₂) X.xe s₁) X.xe s
theorem xR(b:Expr){op:CmpOp}(h:op≠.In)(h2:op≠.NotIn):behindInMarks op b=false:=by
 have e1:(op==CmpOp.In)=false:=by cases op<;>first | rfl | exact absurd rfl h
 have e2:(op==CmpOp.NotIn)=false:=by cases op<;>first | rfl | exact absurd rfl h2
 cases b<;>simp [behindInMarks,e1,e2]
def tB(t:TE):TT:=fun σ H Q=>t σ H fun x H1=>∃c,x=.bl c/\Q c H1
variable {tA tB':TT} {ee:List Expr}
def Im(t u:TT):TT:=fun σ H Q=>t σ H fun c H1=>if c=true then u σ H1 Q else Q false H1
def tOr(t u:TT):TT:=fun σ H Q=>t σ H fun c H1=>if c=true then Q true H1 else u σ H1 Q
def Ir(t:TT):TT:=fun σ H Q=>t σ H fun c H1=>Q (!c) H1
def DK(ta tb:TE):TE:=fun σ H Q=>ta σ H fun x H1=>∃c,x=.bl c/\if c=true then tb σ H1 Q else Q (.bl false) H1
def Iu(ta tb:TE):TE:=fun σ H Q=>ta σ H fun x H1=>∃c,x=.bl c/\if c=true then Q (.bl true) H1 else tb σ H1 Q
def tIf(t:TT)(ta tb:TE):TE:=fun σ H Q=>t σ H fun c H1=>if c=true then ta σ H1 Q else tb σ H1 Q
end
end L2
namespace L2
def SqL(K:W.Frag)(H:Hp)(a:Addr)(xs:List V):Prop:=
 Rd H a (.lst xs)\/
  ∃(o:Obj)(its:Array Value)(n:Nat),K.lookup a=some o/\o.cls=.type "list"/\o.dict=none/\o.data=.seq its n/\its.size<=sizeLine/\Vals xs its.toList
def SqT(K:W.Frag)(H:Hp)(a:Addr)(xs:List V):Prop:=
 Rd H a (.tup xs)\/
  ∃(o:Obj)(its:Array Value)(n:Nat),K.lookup a=some o/\o.cls=.type "tuple"/\o.data=.seq its n/\its.size<=sizeLine/\Vals xs its.toList
def IK:Value->Option V
 | .none=>some .non
 | .bool b=>some (.bl b)
 | .int i _=>some (.int i)
 | .str x _=>some (.str x)
 | .bytes b _=>some (.byt b)
 | .float b _=>some (.flt b)
 | .ref a=>some (.ref a)
 | .type n=>some (.ty n)
 |_=>none
theorem RelV.abs{x:V}{u:Value}(r:RelV x u):IK u=some x:=by
 cases x with
 |non=>cases r;rfl
 |bl _=>cases r;rfl
 |int _=>obtain ⟨t,rfl⟩:=r;rfl
 |str _=>obtain ⟨t,rfl⟩:=r;rfl
 |byt _=>obtain ⟨t,rfl⟩:=r;rfl
 |flt _=>obtain ⟨t,rfl⟩:=r;rfl
 |ref _=>cases r;rfl
 |ty _=>cases r;rfl
theorem RelV.inj{x y:V}{u:Value}(r:RelV x u)(q:RelV y u):x=y:=Option.some.inj (r.abs.symm.trans q.abs)
theorem Vals.inj:∀{xs ys:List V} {us:List Value},Vals xs us->Vals ys us->xs=ys
 |_,_,_,.nil,.nil=>rfl
 |_,_,_,.cons r t,.cons r' t'=>by rw [r.inj r',Vals.inj t t']
section
variable {X:Cx} {pins:List (Addr×Obj)} {σ:St} {H:Hp} {s:Shared} {a:Addr} {xs ys:List V}
theorem SqL.of{K:W.Frag}(h:H a=some (.lst xs)):SqL K H a xs:=.inl (.inl h)
theorem SqT.of{K:W.Frag}(h:H a=some (.tup xs)):SqT K H a xs:=.inl (.inl h)
theorem Inv.list(I:Inv X pins σ H s)(h:SqL X.K H a xs):∃its:List Value,Vals xs its/\PlainL s.heap a its.toArray/\xs.length<=sizeLine:=by
 rcases h with h | ⟨o,its,n,hk,hc,hd,hs,hz,r⟩
 ·obtain ⟨z,its,n,r,e⟩:=h.ok I.hok;exact zAC its r (zAE _ n e rfl rfl rfl) z
 ·refine zAC its.toList r (zAE o n (I.kIn a o hk) hc hd (by simpa using hs)) ?_;have e:=r.length;simp only [Array.length_toList] at e;omega
theorem Inv.tuple(I:Inv X pins σ H s)(h:SqT X.K H a xs):∃its:List Value,Vals xs its/\IsTup s.heap a its.toArray/\xs.length<=sizeLine:=by
 rcases h with h | ⟨o,its,n,hk,hc,hs,hz,r⟩
 ·obtain ⟨z,its,r,p⟩:=h.ok I.hok;exact zAC its r p z
 ·refine zAC its.toList r (zAC o (I.kIn a o hk) hc ⟨n,by simpa using hs⟩) ?_;have e:=r.length;simp only [Array.length_toList] at e;omega
theorem Inv.list_inj(I:Inv X pins σ H s)(h:SqL X.K H a xs)(h':SqL X.K H a ys):xs=ys:=by
 obtain ⟨its,r,⟨o,n,e,_,_,d⟩,_⟩:=I.list h;obtain ⟨its',r',⟨o',n',e',_,_,d'⟩,_⟩:=I.list h';rw [e] at e';cases e';rw [d] at d';injection d' with d1 _;have:its=its':=by simpa using congrArg Array.toList d1
 subst this;exact r.inj r'
theorem Inv.tuple_inj(I:Inv X pins σ H s)(h:SqT X.K H a xs)(h':SqT X.K H a ys):xs=ys:=by
 obtain ⟨its,r,⟨o,e,_,n,d⟩,_⟩:=I.tuple h;obtain ⟨its',r',⟨o',e',_,n',d'⟩,_⟩:=I.tuple h';rw [e] at e';cases e';rw [d] at d';injection d' with d1 _;have:its=its':=by simpa using congrArg Array.toList d1
 subst this;exact r.inj r'
end
abbrev Cx.wish (X:Cx) (E:Value->Shared->Prop):Cx:={X with xe:=E}
abbrev Cx.nox (X:Cx):Cx:=X.wish fun _ _=>False
theorem Cx.Ok.wish{X:Cx}(ok:X.Ok)(E:Value->Shared->Prop):(X.wish E).Ok:=
 ⟨ok.mod,ok.kind,ok.glob,ok.blt,ok.above,ok.inj,ok.has,ok.cab,ok.hd,ok.frames,ok.stk,ok.exf,ok.bs,ok.bsz,ok.noex,ok.exfs,ok.funs,ok.frf⟩
theorem Cx.Ok.unwish{X:Cx}{E:Value->Shared->Prop}(ok:(X.wish E).Ok):X.Ok:=
 ⟨ok.mod,ok.kind,ok.glob,ok.blt,ok.above,ok.inj,ok.has,ok.cab,ok.hd,ok.frames,ok.stk,ok.exf,ok.bs,ok.bsz,ok.noex,ok.exfs,ok.funs,ok.frf⟩
section
variable {X:Cx} {pins:List (Addr×Obj)} {σ:St} {H:Hp} {s:Shared} {E:Value->Shared->Prop}
theorem Inv.wish(I:Inv X pins σ H s)(E:Value->Shared->Prop):Inv (X.wish E) pins σ H s:=⟨I.ok.wish E,I.os,I.bare,I.base,I.loc,I.cell,I.free,I.freeC,I.pin,I.hok,I.len⟩
theorem Inv.unwish(I:Inv (X.wish E) pins σ H s):Inv X pins σ H s:=⟨I.ok.unwish,I.os,I.bare,I.base,I.loc,I.cell,I.free,I.freeC,I.pin,I.hok,I.len⟩
theorem SP.unwish{D:dm}{f:Flow}{s':Shared}(h:SP (X.wish E) pins D f s'):SP X pins D f s':=by
 cases f with
 |next=>obtain ⟨σ',H',I,q⟩:=h;exact zAD σ' H' I.unwish q
 |brk=>obtain ⟨σ',H',I,q⟩:=h;exact zAD σ' H' I.unwish q
 |cont=>obtain ⟨σ',H',I,q⟩:=h;exact zAD σ' H' I.unwish q
 |ret u=>obtain ⟨v,σ',H',I,r,q⟩:=h;exact zAN v σ' H' I.unwish r q
theorem PSs.nox{st:List Stmt}{t:TS}(h:PSs X.nox st t):PSs X st t:=fun pins s σ H D I hw=>wpAny_mono (h pins s σ H D (I.wish _) hw) (fun _ _ q=>q.unwish) fun _ _ z=>False.elim z
end
section
variable {X:Cx} {st:Stmt} {ee:List Stmt} {t u:TS} {e:Expr} {te:TE} {pos:Pos}
def DO:TS:=fun D σ H=>D.nx σ H
def Gx(t u:TS):TS:=fun D σ H=>t {D with nx:=u D} σ H
theorem Inv.quiet{pins:List (Addr×Obj)}{σ:St}{H:Hp}{s:Shared}(I:Inv X pins σ H s):interactive X.env=false:=by simp [interactive,I.ok.kind]
def DN(te:TE):TS:=fun D σ H=>te σ H fun _ H1=>D.nx σ H1
def zB(te:TE):TS:=fun D σ H=>te σ H D.rt
def Gv(c:TT)(t u:TS):TS:=fun D σ H=>c σ H fun b H1=>if b=true then t D σ H1 else u D σ H1
end
abbrev TG:=V->St->Hp->(St->Hp->Prop)->Prop
abbrev TGs:=List V->St->Hp->(St->Hp->Prop)->Prop
def PG(X:Cx)(target:Expr)(t:TG):Prop:=
 ∀(pins:List (Addr×Obj)) (s:Shared) (σ:St) (H:Hp) (v:V) (u:Value) (Q:St->Hp->Prop),Inv X pins σ H s->RelV v u->t v σ H Q->
  wpAny (model X.prog X.w) X.A (assign target X.env u) (fun _ s'=>∃σ' H',Inv X pins σ' H' s'/\Q σ' H') X.xe s
def PGs(X:Cx)(ts:List Expr)(t:TGs):Prop:=
 ∀(pins:List (Addr×Obj)) (s:Shared) (σ:St) (H:Hp) (vs:List V) (us:List Value) (Q:St->Hp->Prop),Inv X pins σ H s->Vals vs us->t vs σ H Q->
  wpAny (model X.prog X.w) X.A (assignInOrder ((assignEach ts X.env).map (·.2)) us) (fun _ s'=>∃σ' H',Inv X pins σ' H' s'/\Q σ' H') X.xe s
abbrev wV:=V->V->V->Hp->(Hp->Prop)->Prop
def E3(X:Cx)(t:wV):Prop:=
 ∀(pins:List (Addr×Obj)) (s:Shared) (σ:St) (H:Hp) (o i v:V) (ov iv u:Value) (Q:Hp->Prop),Inv X pins σ H s->RelV o ov->RelV i iv->RelV v u->t o i v H Q->
  wpAny (model X.prog X.w) X.A (setItem ov iv u) (fun _ s'=>∃H',Inv X pins σ H' s'/\Q H') X.xe s
section
variable {X:Cx} {pos:Pos}
def bD(i:Nat):TG:=fun v σ H Q=>Q (σ.set i (some v)) H
theorem tO{i:Nat}{x:Str}(hN:X.N.Nodup)(hi:X.N[i]?=some x)(hx:Loc X.env.scope x)(hf:X.fn x=true\/X.env.scope.names.lookup x=some .local:=by first | exact .inl rfl | exact .inr rfl | assumption):PG X (.Name x pos) (bD i):=by intro pins s σ H v u Q I r h;exact wpAny_assign_Name (qm I hN hi hx r (fun s' I'=>zAD _ H I' h) hf)
def GW:TGs:=fun vs σ H Q=>vs=[]/\Q σ H
def Cv(t:TG)(u:TGs):TGs:=fun vs σ H Q=>∃v r,vs=v::r/\t v σ H fun σ' H'=>u r σ' H' Q
def GX(K:W.Frag)(n:Nat)(t:TGs):TG:=fun v σ H Q=>∃a xs,v=.ref a/\SqT K H a xs/\xs.length=n/\t xs σ H Q
def Eg(to ti:TE)(t:wV):TG:=fun v σ H Q=>to σ H fun o H1=>ti σ H1 fun i H2=>t o i v H2 fun H3=>Q σ H3
theorem EQ{o i:Expr}{to ti:TE}{t:wV}(ho:PE X o to)(hi:PE X i ti)(hs:E3 X t)
  (ha:∀v,assign (.Subscript o i pos) X.env v=(do
   let ov <- holding [v] (eval o X.env)
   let iv <- holding [v,ov] (eval i X.env)
   standAt pos
   holding [v,ov,iv] (setItem ov iv v)
   release [v,ov,iv] []):=by intro _;rfl):PG X (.Subscript o i pos) (Eg to ti t):=by
 intro pins s σ H v u Q I r h;rw [ha];refine wpAny_bind (wpAny_holding (thn (ho pins s σ H _ I h) fun ov s1 hhx=>?_));obtain ⟨x,H1,I1,r1,q1⟩:=hhx;refine wpAny_bind (wpAny_holding (thn (hi pins s1 σ H1 _ I1 q1) fun iv s2 hhx=>?_));obtain ⟨y,H2,I2,r2,q2⟩:=hhx;refine wpAny_bind (wpAny_standAt (wpAny_bind (wpAny_holding (thn (hs pins s2 σ H2 x y v ov iv u _ I2 r1 r2 r q2) fun _ s3 hhx=>?_))));obtain ⟨H3,I3,q3⟩:=hhx;exact wpAny_release (zAD σ H3 I3 q3)
def Ca(te:TE)(g:TG):TS:=fun D σ H=>te σ H fun x H1=>g x σ H1 D.nx
theorem EV{i:Nat}{x:Str}{e:Expr}{te:TE}{pos':Pos}(hN:X.N.Nodup)(hi:X.N[i]?=some x)(hx:Loc X.env.scope x)(he:PE X e te)(hs:swapsWith e (some (.Name x pos')) pos.line X.env=pure false:=by rfl)(hf:X.fn x=true\/X.env.scope.names.lookup x=some .local:=by first | exact .inl rfl | exact .inr rfl | assumption):
  PS X (.Assign [.Name x pos'] e pos) (Ca te (bD i)):=by
 intro pins s σ H D I h;refine wpAny_Assign_Name (thn (he pins s σ H _ I h) fun v s1 hhx=>?_) hs;obtain ⟨y,H1,I1,r1,q1⟩:=hhx;exact qm I1 hN hi hx r1 (fun s2 I2=>zAD _ H1 I2 q1) hf
end
section
variable {X:Cx} {pos:Pos}
def zD(c:TT)(tb:TS):TS:=fun D σ H=>∃W:Nat->St->Hp->Prop,(∃m,W m σ H)/\∀m σ H,W m σ H->
 c σ H fun b H1=>if b=true then ∃N:St->Hp->Prop,(∀σ' H',N σ' H'->∃m',m'<m/\W m' σ' H')/\tb {D with nx:=N,ct:=N,bk:=D.nx} σ H1 else D.nx σ H1
end
structure It where
 go:Nat->Hp->Prop
 yld:Nat->Hp->V->Hp->Prop
 stop:Nat->Hp->Prop
def ju(X:Cx)(pins:List (Addr×Obj))(H:Hp)(b:Addr):Prop:=
 H b=none/\b≠X.env.locals/\b∉X.fs/\(b∈X.ex\/X.s₀.heap.objs.size<=b)/\(∀x c,X.env.cells.lookup x=some c->c≠b)/\∀p∈X.pn++pins,p.1≠b
theorem Inv.fpOk{X:Cx}{pins:List (Addr×Obj)}{σ:St}{H H':Hp}{s:Shared}{b:Addr}(I:Inv X pins σ H s)(hb:s.heap.objs.size<=b)(hn:H' b=none):ju X pins H' b:=by
 refine zAQ hn (lu (dR I.lt hb)) (I.nofs hb) (.inr (cL I.sz hb)) (fun x c e z=>?_) fun p hp z=>?_
 ·obtain ⟨v,q⟩:=I.cell x c e;exact absurd (dR q.lt (by rw [z];exact hb)) (nN _)
 ·exact absurd (dR (zq7 (I.pin p hp).1) (by rw [z];exact hb)) (nN _)
structure kR(P:Program)(w:World)(K:W.Frag)(tg:Expr)(J:It)(fp:List Addr)(it:Addr)(tn:Nat->Heap->Prop):Prop where
 mem:it∈fp
 obj:∀i h,tn i h->∀b∈fp,∃o,h.get? b=some o/\∀v,o.data≠.cell v
 keep:∀i h h',tn i h->(∀b∈fp,∀o,h.get? b=some o->h'.get? b=some o)->tn i h'
 item:∀(X:Cx),X.prog=P->X.w=w->X.K=K->X.calm=true->∀(i:Nat)(pins:List (Addr×Obj)) (s:Shared) (σ:St) (H:Hp) (E:Value->Shared->Prop),Inv X pins σ H s->(∀b∈fp,ju X pins H b)->tn i s.heap->J.go i H->
  wpAny (model P w) X.A (pyNext (.ref it)) (fun r s1=>∃u,r=some u/\
   wpAny (model P w) X.A (letOwnedTupleGo tg (.ref it) u) (fun _ s2=>∃x H',Inv X pins σ H' s2/\RelV x u/\J.yld i H x H'/\tn (i+1) s2.heap/\∀b∈fp,H' b=none) E s1) E s
 done:∀(X:Cx),X.prog=P->X.w=w->X.K=K->X.calm=true->∀(i:Nat)(pins:List (Addr×Obj)) (s:Shared) (σ:St) (H:Hp) (E:Value->Shared->Prop),Inv X pins σ H s->(∀b∈fp,ju X pins H b)->tn i s.heap->J.stop i H->
  wpAny (model P w) X.A (pyNext (.ref it)) (fun r s1=>r=none/\Inv X pins σ H s1) E s
 self:∀(A:Around)(i:Nat)(s:Shared)(Q:Value->Shared->Prop)(E:Value->Shared->Prop),tn i s.heap->Q (.ref it) s->wpAny (model P w) A (pyIter (.ref it)) Q E s
abbrev TI:=St->Hp->(It->Hp->Prop)->Prop
variable {P:Program}
def PIE(X:Cx)(pins:List (Addr×Obj))(σ:St)(tg:Expr)(R:It->Hp->Prop)(itv:Value)(s2:Shared):Prop:=
 ∃(it:Addr)(fp:List Addr)(tn:Nat->Heap->Prop)(J:It)(H':Hp),itv=.ref it/\Inv X pins σ H' s2/\kR X.prog X.w X.K tg J fp it tn/\tn 0 s2.heap/\(∀b∈fp,ju X pins H' b)/\R J H'
def PI(X:Cx)(tg iter:Expr)(wi:TI):Prop:=
 ∀(pins:List (Addr×Obj)) (s:Shared) (σ:St) (H:Hp) (R:It->Hp->Prop),Inv X pins σ H s->wi σ H R->
  wpAny (model X.prog X.w) X.A (eval iter X.env) (fun v s1=>wpAny (model X.prog X.w) X.A (pyIter v) (PIE X pins σ tg R) X.xe s1) X.xe s
theorem tq{M:Model}{A:Around}{E:Value->Shared->Prop}{s:Shared}{tg:Expr}{it:Addr}{u:Value}{o:Obj}{n:String}{vs:Array Value}{Q:Unit->Shared->Prop}(ho:s.heap.get? it=some o)(hc:o.cls=.type n)(hd:o.data=.fields vs)
 (hn:["enumerate","zip","dict_itemiterator","dict_reverseitemiterator","odict_iterator","itertools.zip_longest","itertools.pairwise"].contains n=false) (hQ:Q () s):wpAny M A (letOwnedTupleGo tg (.ref it) u) Q E s:=by
  unfold letOwnedTupleGo
  cases tg<;>first
    |exact wpAny_pure hQ
    | (cases u<;>first
        |exact wpAny_pure hQ
        | (refine wpAny_bind (wpAny_load ho ?_)
           rw [hc,hd];show wpAny M A (if (["enumerate","zip","dict_itemiterator","dict_reverseitemiterator","odict_iterator","itertools.zip_longest","itertools.pairwise"].contains n&&vs[0]?==some (rawInt _))=true then _ else _) Q E s;rw [if_neg (by intro h;rw [hn,zY] at h;cases h)];exact wpAny_pure hQ))
def Itl(K:W.Frag)(a:Addr):It:=
 ⟨fun i H=>∃xs x,SqL K H a xs/\xs[i]?=some x,fun i H x H'=>H'=H/\∀xs,SqL K H a xs->xs[i]?=some x,fun i H=>∃xs,SqL K H a xs/\xs.length<=i⟩
def Itt(K:W.Frag)(a:Addr):It:=
 ⟨fun i H=>∃xs x,SqT K H a xs/\xs[i]?=some x,fun i H x H'=>H'=H/\∀xs,SqT K H a xs->xs[i]?=some x,fun i H=>∃xs,SqT K H a xs/\xs.length<=i⟩
def Itr(lo:Int)(n:Nat):It:=⟨fun i _=>i<n,fun i H x H'=>H'=H/\x=.int (lo+i),fun i _=>n<=i⟩
theorem wz{w:World}{K:W.Frag}{tg:Expr}(a it:Addr):kR P w K tg (Itl K a) [it] it (fun i h=>h.IsListIter it a i) where
 mem:=by simp
 obj:=fun i h st b hb=>by
  have e:b=it:=by simpa using hb
  subst e;obtain ⟨o,e,c,d⟩:=st;exact zn o e fun v z=>by rw [d] at z;cases z
 keep:=fun i h h' st k=>st.at fun o e=>k it Jz o e
 item:=by intro X hP hw hK hc i pins s σ H E I hf st hg;subst hP hw hK;obtain ⟨xs,x,hq,hx⟩:=hg;obtain ⟨its,rv,p,hz⟩:=I.list hq;obtain ⟨u,hu,ru⟩:=rv.get hx;obtain ⟨f0,f1,f2,f3,f4,f5⟩:=hf it Jz;refine wpAny_pyNext_list_item st p.isList (x:=u) (by simpa using hu) fun h' st' sb=>?_;have I1:Inv X pins σ H {s with heap:=h'}:=I.turned (t':=s.toks) (fun b o hb e=>(sb.2 b hb).trans e) f0 f1 f3 f4 f5;obtain ⟨o,e,c,d⟩:=id st';exact zn u rfl (tq (s:={s with heap:=h'}) e c d Jx (zAT x H I1 ru ⟨rfl,fun ys hy=>by rw [I.list_inj hy hq];exact hx⟩ st' fun b hb=>(hf b hb).1))
 done:=by intro X hP hw hK hc i pins s σ H E I hf st hg;subst hP hw hK;obtain ⟨xs,hq,hx⟩:=hg;obtain ⟨its,rv,p,hz⟩:=I.list hq;obtain ⟨f0,f1,f2,f3,f4,f5⟩:=hf it Jz;have hl:=rv.length;exact wpAny_pyNext_list_end (I.ok.hd hc) st p.isList (by simp;omega) fun h' eb=>⟨rfl,I.turned (t':=s.toks) (fun b o hb e=>eb b o hb e) f0 f1 f3 f4 f5⟩
 self:=fun _ _ _ _ _ st h=>wpAny_pyIter_listiter st h
theorem sj{w:World}{K:W.Frag}{tg:Expr}(a it:Addr):kR P w K tg (Itt K a) [it] it (fun i h=>h.IsTupleIter it a i) where
 mem:=by simp
 obj:=fun i h st b hb=>by
  have e:b=it:=by simpa using hb
  subst e;obtain ⟨o,e,c,d⟩:=st;exact zn o e fun v z=>by rw [d] at z;cases z
 keep:=fun i h h' st k=>st.at fun o e=>k it Jz o e
 item:=by intro X hP hw hK hc i pins s σ H E I hf st hg;subst hP hw hK;obtain ⟨xs,x,hq,hx⟩:=hg;obtain ⟨its,rv,p,hz⟩:=I.tuple hq;obtain ⟨u,hu,ru⟩:=rv.get hx;obtain ⟨f0,f1,f2,f3,f4,f5⟩:=hf it Jz;refine wpAny_pyNext_tuple_item st (show s.heap.IsTuple a its.toArray from p) (x:=u) (by simpa using hu) fun h' st' sb=>?_;have I1:Inv X pins σ H {s with heap:=h'}:=I.turned (t':=s.toks) (fun b o hb e=>(sb.2 b hb).trans e) f0 f1 f3 f4 f5;obtain ⟨o,e,c,d⟩:=id st';exact zn u rfl (tq (s:={s with heap:=h'}) e c d Jx (zAT x H I1 ru ⟨rfl,fun ys hy=>by rw [I.tuple_inj hy hq];exact hx⟩ st' fun b hb=>(hf b hb).1))
 done:=by intro X hP hw hK hc i pins s σ H E I hf st hg;subst hP hw hK;obtain ⟨xs,hq,hx⟩:=hg;obtain ⟨its,rv,p,hz⟩:=I.tuple hq;obtain ⟨f0,f1,f2,f3,f4,f5⟩:=hf it Jz;have hl:=rv.length;exact wpAny_pyNext_tuple_end (I.ok.hd hc) st (show s.heap.IsTuple a its.toArray from p) (by simp;omega) fun h' eb=>⟨rfl,I.turned (t':=s.toks) (fun b o hb e=>eb b o hb e) f0 f1 f3 f4 f5⟩
 self:=fun _ _ _ _ _ st h=>wpAny_pyIter_tupleiter st h
theorem sh{w:World}{K:W.Frag}{tg:Expr}(it:Addr)(lo:Int)(n:Nat):kR P w K tg (Itr lo n) [it] it (fun i h=>IsRangeIter h it (lo+(i:Nat) * 1) ((n:Int)-(i:Nat)) 1) where
 mem:=by simp
 obj:=fun i h st b hb=>by
  have e:b=it:=by simpa using hb
  subst e;exact ⟨_,st,fun v z=>by
   have z':Data.fields _=Data.cell v:=z
   cases z'⟩
 keep:=fun i h h' st k=>k it Jz _ st
 item:=by intro X hP hw hK hc i pins s σ H E I hf st hg;subst hP hw hK;obtain ⟨f0,f1,f2,f3,f4,f5⟩:=hf it Jz;have W:=Walks.range (prog:=X.prog) (w:=X.w) (I.ok.hd hc) it lo 1 n;refine W.item i s _ _ hg st fun v h' tk hv st' kk=>?_;obtain ⟨t,rfl⟩:=hv;have I1:Inv X pins σ H {s with heap:=h',toks:=tk}:=I.turned (fun b o hb e=>kk b o (by simpa using hb) e) f0 f1 f3 f4 f5;refine zn _ rfl (tq (s:={s with heap:=h',toks:=tk}) (n:="range_iterator") st' rfl rfl Jx (zAT (.int (lo+i)) H I1 ⟨t,?_⟩ ⟨rfl,rfl⟩ st' fun b hb=>(hf b hb).1));rw [Int.mul_one]
 done:=by intro X hP hw hK hc i pins s σ H E I hf st hg;subst hP hw hK;obtain ⟨f0,f1,f2,f3,f4,f5⟩:=hf it Jz;exact wpAny_pyNext_range_end (I.ok.hd hc) st (by have:n<=i:=hg;omega) fun h' eb=>⟨rfl,I.turned (t':=s.toks) (fun b o hb e=>eb b o hb e) f0 f1 f3 f4 f5⟩
 self:=fun _ _ _ _ _ st h=>wpAny_pyIter_rangeiter st h
end L2
namespace L2
variable {H:Hp} {pins:List (Addr×Obj)} {s:Shared} {σ:St}
section
variable {X:Cx} {tg:Expr}
def Cw(K:W.Frag)(tl:TE):TI:=fun σ H R=>tl σ H fun x H1=>∃a,x=.ref a/\(∃xs,SqL K H1 a xs)/\R (Itl K a) H1
def GZ(K:W.Frag)(tl:TE):TI:=fun σ H R=>tl σ H fun x H1=>∃a,x=.ref a/\(∃xs,SqT K H1 a xs)/\R (Itt K a) H1
theorem zc{R:It->Hp->Prop}{E:Value->Shared->Prop}{lo hi:Int}{t u v:Tok}{tk:Nat}(I:Inv X pins σ H s)(h1:-(2 ^ 62)<=lo)(h2:lo<2 ^ 62)(h3:-(2 ^ 62)<=hi)(h4:hi<2 ^ 62)
 (q:R (Itr lo (hi-lo).toNat) H):wpAny (model X.prog X.w) X.A (pyIter (.ref s.heap.objs.size)) (PIE X pins σ tg R) E {s with heap:=s.heap.push {cls:=.type "range",data:=.fields #[.int lo t,.int hi u,.int 1 v]},toks:=tk}:=by
 refine wpAny_pyIter_range (IsRange.new ..) (small_one h1 h2 h3 h4) ?_;have I1:Inv X pins σ H {s with heap:=s.heap.push {cls:=.type "range",data:=.fields #[.int lo t,.int hi u,.int 1 v]},toks:=tk}:=I.kept fun b o e=>bX _ e;refine ⟨(s.heap.push {cls:=.type "range",data:=.fields #[.int lo t,.int hi u,.int 1 v]}).objs.size,[(s.heap.push {cls:=.type "range",data:=.fields #[.int lo t,.int hi u,.int 1 v]}).objs.size],_,_,H,rfl,
  I1.kept (t':=tk) fun b o e=>bX _ e,sh _ lo (hi-lo).toNat,?_,fun b hb=>?_,q⟩
 ·have e1:lo+((0:Nat):Int) * 1=lo:=by simp
  have e2:(((hi-lo).toNat:Nat):Int)-((0:Nat):Int)=Builtin.Range.rangeSize lo hi 1:=by rw [rangeSize_one];split<;>omega
  show IsRangeIter _ _ (lo+((0:Nat):Int) * 1) ((((hi-lo).toNat:Nat):Int)-((0:Nat):Int)) 1;rw [e1,e2];exact dA _ rfl
 ·have e:b=(s.heap.push {cls:=.type "range",data:=.fields #[.int lo t,.int hi u,.int 1 v]}).objs.size:=by simpa using hb
  subst e;exact I1.fpOk (zq0 _) (I1.hok.fresh (zq0 _))
def Cy(ta:TA):TI:=fun σ H R=>ta σ H fun vs H1=>∃j:Int,vs=[.int j]/\-(2 ^ 62)<=j/\j<2 ^ 62/\R (Itr 0 j.toNat) H1
def Gu(wi:TI)(g:TG)(tb:TS):TS:=fun D σ H=>wi σ H fun J H1=>∃W:Nat->Nat->St->Hp->Prop,(∃m,W 0 m σ H1)/\∀i m σ H,W i m σ H->
 (J.stop i H/\D.nx σ H)\/(J.go i H/\∃N:St->Hp->Prop,(∀σ' H',N σ' H'->∃m',m'<m/\W (i+1) m' σ' H')/\∀x H',J.yld i H x H'->g x σ H' fun σ2 H2=>tb {D with nx:=N,ct:=N,bk:=D.nx} σ2 H2)
def ic(fp:List Addr)(h:Heap):List (Addr×Obj):=fp.filterMap fun b=>(h.get? b).map fun o=>(b,o)
theorem cP{fp:List Addr}{h:Heap}{b:Addr}{o:Obj}(hb:b∈fp)(e:h.get? b=some o):(b,o)∈ic fp h:=List.mem_filterMap.mpr (zn b hb (by rw [e];rfl))
theorem vE{fp:List Addr}{h:Heap}{p:Addr×Obj}(hp:p∈ic fp h):p.1∈fp/\h.get? p.1=some p.2:=by
 obtain ⟨b,hb,e⟩:=List.mem_filterMap.mp hp
 cases q:h.get? b with
 |none=>rw [q] at e;cases e
 |some o=>rw [q] at e;have e':(b,o)=p:=Option.some.inj e;subst e';exact ⟨hb,q⟩
theorem Inv.pinned{fp:List Addr}(I:Inv X pins σ H s)(hf:∀b∈fp,ju X pins H b)(ho:∀b∈fp,∃o,s.heap.get? b=some o/\∀v,o.data≠.cell v):Inv X (pins++ic fp s.heap) σ H s:=
 I.pins_of fun p hp=>(zq11.mp hp).elim (fun z=>I.pin p (dC _ z)) fun z=>by obtain ⟨hb,e⟩:=vE z;obtain ⟨f0,f1,f2,_⟩:=hf p.1 hb;obtain ⟨o,e',d⟩:=ho p.1 hb;rw [e] at e';cases e';exact zAI e f0 f1 f2 d
theorem Inv.unpinned{pl:List (Addr×Obj)}(I:Inv X (pins++pl) σ H s):Inv X pins σ H s:=I.pins_of fun p hp=>I.pin p (dC _ (jD _ hp))
theorem EU{iter:Expr}{body:List Stmt}{wi:TI}{g:TG}{tb:TS}{pos:Pos}(hp:PassesOwn (model X.prog X.w) X.A X.env X.xe)(hc:X.calm=true)(hi:PI X tg iter wi)(hg:PG X tg g)(hb:PSs X body tb)
 (hs:∀x,foldedSetIterable iter X.env x=pure x:=by intro _;rfl):PS X (.For tg iter body [] pos) (Gu wi g tb):=by
 intro pins s σ H D I h;refine wpAny_For (thn (hi pins s σ H _ I h) fun v s1 h1=>thn h1 fun itv s2 h2=>?_) hs;obtain ⟨it,fp,tn,J,H2,e,I2,T,st2,f2,W,⟨m0,w0⟩,turn⟩:=h2;subst e;have stat:∀{H':Hp},(∀b∈fp,H' b=none)->∀b∈fp,ju X pins H' b:=fun hn b hb=>⟨hn b hb,(f2 b hb).2⟩
 refine codeAny_forLoop_any (fun n s'=>∃i σ' H',Inv X pins σ' H' s'/\tn i s'.heap/\(∀b∈fp,H' b=none)/\W i n σ' H') ?_ m0 (zAO 0 σ H2 I2 st2 (fun b hb=>(f2 b hb).1) w0);rintro n s3 ⟨i,σ3,H3,I3,st3,fr3,w3⟩;rcases turn i n σ3 H3 w3 with ⟨stop,qn⟩ | ⟨go,N,hN,step⟩
 ·refine wpAny_passesOwn hp (thn (T.done X rfl rfl rfl hc i pins s3 σ3 H3 X.xe I3 (stat fr3) st3 stop) fun r s4 ⟨hr,I4⟩=>?_);subst hr;exact wpAny_execs_nil (zAD σ3 H3 I4 qn)
 ·refine wpAny_passesOwn hp (thn (T.item X rfl rfl rfl hc i pins s3 σ3 H3 X.xe I3 (stat fr3) st3 go) fun r s4 ⟨u,hr,h4⟩=>?_);subst hr;refine wpAny_passesOwn hp (thn h4 fun _ s5 hhx=>?_);obtain ⟨x,H5,I5,r5,y5,st5,fr5⟩:=hhx;have I5':=I5.pinned (stat fr5) (T.obj _ _ st5);refine wpAny_passesOwn hp (thn (hg _ s5 σ3 H5 x u _ I5' r5 (step x H5 y5)) fun _ s6 hhx=>?_);obtain ⟨σ6,H6,I6,q6⟩:=hhx;refine wpAny_passesOwn hp (thn (hb _ s6 σ6 H6 _ I6 q6) fun f s7 q7=>?_);have again:∀{σ7:St} {H7:Hp},Inv X (pins++ic fp s5.heap) σ7 H7 s7->N σ7 H7->∃m,m<n/\∃i σ' H',Inv X pins σ' H' s7/\tn i s7.heap/\(∀b∈fp,H' b=none)/\W i m σ' H':=fun {σ7 H7} I7 n7=>by obtain ⟨m',hm,w7⟩:=hN σ7 H7 n7;refine zn m' hm (zAO (i+1) σ7 H7 I7.unpinned (T.keep _ _ _ st5 fun b hb o e=>(I7.pin (b,o) (dC _ (dC _ (cP hb e)))).1) (fun b hb=>?_) w7);obtain ⟨o,e,d⟩:=T.obj _ _ st5 b hb;exact (I7.pin (b,o) (dC _ (dC _ (cP hb e)))).2.1
  cases f with
  |next=>obtain ⟨σ7,H7,I7,n7⟩:=q7;exact again I7 n7
  |cont=>obtain ⟨σ7,H7,I7,n7⟩:=q7;exact again I7 n7
  |brk=>obtain ⟨σ7,H7,I7,q7⟩:=q7;exact zAD σ7 H7 I7.unpinned q7
  |ret v=>obtain ⟨x7,σ7,H7,I7,r7,q7⟩:=q7;exact zAN x7 σ7 H7 I7.unpinned r7 q7
end
theorem xt{K:W.Frag}{a:Addr}{xs:List V}{g:TG}{tb:TS}{D:dm}(Pv:Nat->St->Hp->Prop)(h0:Pv 0 σ H)(hl:∀i σ H,i<=xs.length->Pv i σ H->SqL K H a xs)
 (hs:∀i x σ H,xs[i]?=some x->Pv i σ H->g x σ H fun σ2 H2=>tb {D with nx:=Pv (i+1),ct:=Pv (i+1),bk:=D.nx} σ2 H2) (hd:∀σ H,Pv xs.length σ H->D.nx σ H) :
 ∃W:Nat->Nat->St->Hp->Prop,(∃m,W 0 m σ H)/\∀i m σ H,W i m σ H->
   ((Itl K a).stop i H/\D.nx σ H)\/((Itl K a).go i H/\∃N:St->Hp->Prop,(∀σ' H',N σ' H'->∃m',m'<m/\W (i+1) m' σ' H')/\∀x H',(Itl K a).yld i H x H'->g x σ H' fun σ2 H2=>tb {D with nx:=N,ct:=N,bk:=D.nx} σ2 H2):=by
 refine zn (fun i m σ H=>m=xs.length-i/\i<=xs.length/\Pv i σ H) (zAC xs.length Jz (cm _) h0) ?_;rintro i m σ H ⟨rfl,hi,p⟩;have q:=hl i σ H hi p
 by_cases hlt:i<xs.length
 ·refine .inr ⟨zAD xs (xs[i]) q (by simp [hlt]),zn (Pv (i+1)) (fun σ' H' p'=>zAF (xs.length-(i+1)) Jy rfl hlt p') fun x H' y=>?_⟩;obtain ⟨e,y⟩:=y;subst e;exact hs i x σ _ (y xs q) p
 ·have e:i=xs.length:=by omega
  subst e;exact .inl ⟨zn xs q (zq0 _),hd σ H p⟩
theorem vi{lo:Int}{n:Nat}{g:TG}{tb:TS}{D:dm}(Pv:Nat->St->Hp->Prop)(h0:Pv 0 σ H)
 (hs:∀i σ H,i<n->Pv i σ H->g (.int (lo+i)) σ H fun σ2 H2=>tb {D with nx:=Pv (i+1),ct:=Pv (i+1),bk:=D.nx} σ2 H2) (hd:∀σ H,Pv n σ H->D.nx σ H) :
 ∃W:Nat->Nat->St->Hp->Prop,(∃m,W 0 m σ H)/\∀i m σ H,W i m σ H->
   ((Itr lo n).stop i H/\D.nx σ H)\/((Itr lo n).go i H/\∃N:St->Hp->Prop,(∀σ' H',N σ' H'->∃m',m'<m/\W (i+1) m' σ' H')/\∀x H',(Itr lo n).yld i H x H'->g x σ H' fun σ2 H2=>tb {D with nx:=N,ct:=N,bk:=D.nx} σ2 H2):=by
 refine zn (fun i m σ H=>m=n-i/\i<=n/\Pv i σ H) (zAC n Jz (cm _) h0) ?_;rintro i m σ H ⟨rfl,hi,p⟩
 by_cases hlt:i<n
 ·refine .inr ⟨hlt,zn (Pv (i+1)) (fun σ' H' p'=>zAF (n-(i+1)) Jy rfl hlt p') fun x H' y=>?_⟩;obtain ⟨e,y⟩:=y;subst e y;exact hs i σ _ hlt p
 ·have e:i=n:=by omega
  subst e;exact .inl ⟨zq0 _,hd σ H p⟩
end L2
namespace L2
abbrev R2:=V->V->Hp->VK->Prop
def OpR(X:Cx)(f:Value->Value->Sem Value)(r:R2):Prop:=
 ∀(pins:List (Addr×Obj)) (s:Shared) (σ:St) (H:Hp) (x y:V) (v u:Value) (Q:VK),Inv X pins σ H s->RelV x v->RelV y u->r x y H Q->
  wpAny (model X.prog X.w) X.A (f v u) (EP X pins σ Q) X.xe s
def UnR(X:Cx)(f:Value->Sem Value)(r:V->Hp->VK->Prop):Prop:=
 ∀(pins:List (Addr×Obj)) (s:Shared) (σ:St) (H:Hp) (x:V) (v:Value) (Q:VK),Inv X pins σ H s->RelV x v->r x H Q->
  wpAny (model X.prog X.w) X.A (f v) (EP X pins σ Q) X.xe s
def eP(X:Cx)(f:Value)(r:List V->Hp->VK->Prop):Prop:=
 ∀(pins:List (Addr×Obj)) (s:Shared) (σ:St) (H:Hp) (xs:List V) (us:List Value) (Q:VK),Inv X pins σ H s->Vals xs us->r xs H Q->
  wpAny (model X.prog X.w) X.A (call f us) (EP X pins σ Q) X.xe s
def tOp(r:R2)(ta tb:TE):TE:=fun σ H Q=>ta σ H fun x H1=>tb σ H1 fun y H2=>r x y H2 Q
def tUn(r:V->Hp->VK->Prop)(ta:TE):TE:=fun σ H Q=>ta σ H fun x H1=>r x H1 Q
def rI(C:Int->Int->Prop)(g:Int->Int->V):R2:=fun x y H Q=>∃i j,x=.int i/\y=.int j/\C i j/\Q (g i j) H
def rI0(g:Int->Int->V):R2:=fun x y H Q=>∃i j,x=.int i/\y=.int j/\Q (g i j) H
def rU(g:Int->V):V->Hp->VK->Prop:=fun x H Q=>∃i,x=.int i/\Q (g i) H
section
variable {X:Cx} {a b c:Expr} {ta tb tc:TE} {pos:Pos}
theorem E6(ha:PE X a ta)(hb:PE X b tb){pins:List (Addr×Obj)}{s:Shared}{σ:St}{H:Hp}{R:V->V->Hp->Prop}(I:Inv X pins σ H s)
  (h:ta σ H fun x H1=>tb σ H1 fun y H2=>R x y H2) {Q:Value->Shared->Prop} {f:Value->Value->Sem Value}
  (hf:∀v u s2 x y H2,Inv X pins σ H2 s2->RelV x v->RelV y u->R x y H2->wpAny (model X.prog X.w) X.A (f v u) Q X.xe s2) :
  wpAny (model X.prog X.w) X.A (eval a X.env) (fun v s₁=>wpAny (model X.prog X.w) X.A (eval b X.env) (fun u s₂=>wpAny (model X.prog X.w) X.A (f v u) Q X.xe s₂) X.xe s₁) X.xe s:=by
 refine thn (ha pins s σ H _ I h) fun v s1 hhx=>?_;obtain ⟨x,H1,I1,r1,q1⟩:=hhx;refine thn (hb pins s1 σ H1 _ I1 q1) fun u s2 hhx=>?_;obtain ⟨y,H2,I2,r2,q2⟩:=hhx;exact hf v u s2 x y H2 I2 r1 r2 q2
theorem opI{f:Value->Value->Sem Value}{C:Int->Int->Prop}{g:Int->Int->Int}
  (rule:∀(i j:Int)(t u:Tok)(s:Shared)(Q:Value->Shared->Prop)(E:Value->Shared->Prop),C i j->Q (.int (g i j) s.toks) {s with toks:=s.toks+1}->wpAny (model X.prog X.w) X.A (f (.int i t) (.int j u)) Q E s) :
  OpR X f (rI C fun i j=>.int (g i j)):=by
 intro pins s σ H x y v u Q I rx ry h;obtain ⟨i,j,rfl,rfl,hc,q⟩:=h;obtain ⟨t,rfl⟩:=rx;obtain ⟨t',rfl⟩:=ry;exact rule i j t t' s _ _ hc (zAA (.int (g i j)) H (I.tok _) ⟨_,rfl⟩ q)
theorem yg{f:Value->Value->Sem Value}{g:Int->Int->Int}
  (rule:∀(i j:Int)(t u:Tok)(s:Shared)(Q:Value->Shared->Prop)(E:Value->Shared->Prop),Q (.int (g i j) s.toks) {s with toks:=s.toks+1}->wpAny (model X.prog X.w) X.A (f (.int i t) (.int j u)) Q E s) :
  OpR X f (rI0 fun i j=>.int (g i j)):=by
 intro pins s σ H x y v u Q I rx ry h;obtain ⟨i,j,rfl,rfl,q⟩:=h;obtain ⟨t,rfl⟩:=rx;obtain ⟨t',rfl⟩:=ry;exact rule i j t t' s _ _ (zAA (.int (g i j)) H (I.tok _) ⟨_,rfl⟩ q)
theorem Bv{f:Value->Value->Sem Value}{g:Int->Int->Bool}
  (rule:∀(i j:Int)(t u:Tok)(s:Shared)(Q:Value->Shared->Prop)(E:Value->Shared->Prop),Q (.bool (g i j)) s->wpAny (model X.prog X.w) X.A (f (.int i t) (.int j u)) Q E s) :
  OpR X f (rI0 fun i j=>.bl (g i j)):=by
 intro pins s σ H x y v u Q I rx ry h;obtain ⟨i,j,rfl,rfl,q⟩:=h;obtain ⟨t,rfl⟩:=rx;obtain ⟨t',rfl⟩:=ry;exact rule i j t t' s _ _ (zAA (.bl (g i j)) H I rfl q)
def uS(i j:Int):Prop:=0<=j/\j<=1000000/\i.natAbs<2 ^ 64
def CMul(i j:Int):Prop:=(-(2 ^ 64)<i/\i<2 ^ 64)\/(-(2 ^ 64)<j/\j<2 ^ 64)
theorem CMul.ok{i j:Int}(h:CMul i j):IntMulOk i j:=by
 rcases h with ⟨h1,h2⟩ | ⟨h1,h2⟩
 ·exact .of_left (intBits_le_64 h1 h2)
 ·exact .of_right (intBits_le_64 h1 h2)
theorem EE:OpR X (binaryOp .Add) (rI0 fun i j=>.int (i+j)):=yg fun _ _ _ _ _ _ _ q=>add_int q
theorem EL:OpR X (binaryOp .Sub) (rI0 fun i j=>.int (i-j)):=yg fun _ _ _ _ _ _ _ q=>sub_int q
theorem EH:OpR X (binaryOp .Mult) (rI CMul fun i j=>.int (i * j)):=opI fun _ _ _ _ _ _ _ hc q=>mul_int q hc.ok
theorem EG:OpR X (binaryOp .Mod) (rI (fun _ j=>0<j) fun i j=>.int (i % j)):=opI fun i j _ _ _ _ _ hc q=>by have h1:(0:Int)<j:=hc;exact mod_int' Jy (by rw [Int.fmod_eq_emod_of_nonneg i Jy];exact q)
theorem EJ:OpR X (binaryOp .Pow) (rI uS fun i j=>.int (i ^ j.toNat)):=opI fun _ _ _ _ _ _ _ hc q=>pow_int_small hc.1 hc.2.1 hc.2.2 q
theorem EK:OpR X (binaryOp .LShift) (rI uS fun i j=>.int (i * 2 ^ j.toNat)):=opI fun _ _ _ _ _ _ _ hc q=>lshift_int_small hc.1 hc.2.1 hc.2.2 q
theorem EF:OpR X (binaryOp .BitAnd) (rI0 fun i j=>.int (Builtin.bitAnd i j)):=yg fun _ _ _ _ _ _ _ q=>and_int q
theorem Hn:OpR X (binaryOp .BitOr) (rI0 fun i j=>.int (Builtin.bitOr i j)):=yg fun _ _ _ _ _ _ _ q=>or_int q
theorem EM:OpR X (binaryOp .BitXor) (rI0 fun i j=>.int (Builtin.bitXor i j)):=yg fun _ _ _ _ _ _ _ q=>xor_int q
theorem unI{f:Value->Sem Value}{g:Int->Int}
  (rule:∀(i:Int)(t:Tok)(s:Shared)(Q:Value->Shared->Prop)(E:Value->Shared->Prop),Q (.int (g i) s.toks) {s with toks:=s.toks+1}->wpAny (model X.prog X.w) X.A (f (.int i t)) Q E s) :
  UnR X f (rU fun i=>.int (g i)):=by
 intro pins s σ H x v Q I rx h;obtain ⟨i,rfl,q⟩:=h;obtain ⟨t,rfl⟩:=rx;exact rule i t s _ _ (zAA (.int (g i)) H (I.tok _) ⟨_,rfl⟩ q)
theorem GB:UnR X (unaryOp .USub) (rU fun i=>.int (-i)):=unI fun _ _ _ _ _ q=>neg_int q
end
def wg:V->V->Bool
 | .non,.non=>true | .non,.int _=>true | .int _,.non=>true | .non,.bl _=>true | .bl _,.non=>true | .non,.str _=>true | .str _,.non=>true
 | .int _,.int _=>true | .bl _,.bl _=>true | .str _,.str _=>true | .byt _,.byt _=>true
 | .int _,.str _=>true | .str _,.int _=>true | .bl _,.str _=>true | .str _,.bl _=>true
 |_,_=>false
def rEq:R2:=fun x y H Q=>wg x y=true/\Q (.bl (decide (x=y))) H
def rNe:R2:=fun x y H Q=>wg x y=true/\Q (.bl (!decide (x=y))) H
theorem sX{i j:Int}:decide (V.int i=V.int j)=(i==j):=by rw [qE];simp
theorem xl{i j:Bool}:decide (V.bl i=V.bl j)=(i==j):=by rw [qE];simp
theorem sY{i j:Str}:decide (V.str i=V.str j)=(i==j):=by rw [qE];simp
theorem sW{i j:Array UInt8}:decide (V.byt i=V.byt j)=(i.toList==j.toList):=by
 rw [qE]
 cases i
 cases j
 simp
section
variable {X:Cx} {a b c:Expr} {ta tb tc:TE} {pos:Pos}
theorem bi{pins:List (Addr×Obj)}{σ:St}{H:Hp}{s:Shared}{Q:VK}{k k':Bool}(I:Inv X pins σ H s)(q:Q (.bl k) H)(e:k=k'):EP X pins σ Q (.bool k') s:=by subst e;exact zAA (.bl k) H I rfl q
theorem aZ:OpR X (compareOp .Eq) rEq:=by
 intro pins s σ H x y v u Q I rx ry h;obtain ⟨hs,q⟩:=h
 cases x with
 |non=>
  cases rx
  cases y with
  |non=>cases ry;exact PySem.EqNone.eq_none_none (bi I q Jz)
  |bl j=>cases ry;exact PySem.EqNone.eq_none_bool (bi I q Jz)
  |int j=>obtain ⟨t',rfl⟩:=ry;exact PySem.EqNone.eq_none_int (bi I q Jz)
  |str j=>obtain ⟨t',rfl⟩:=ry;exact PySem.EqNone.eq_none_str (bi I q Jz)
  |_=>exact absurd (show false=true from hs) zq3
 |bl i=>
  cases rx
  cases y with
  |non=>cases ry;exact PySem.EqNone.eq_bool_none (bi I q Jz)
  |bl j=>cases ry;exact eq_bool (bi I q xl)
  |str j=>obtain ⟨t',rfl⟩:=ry;exact PySem.EqMixed.eq_bool_str (bi I q Jz)
  |_=>exact absurd (show false=true from hs) zq3
 |int i=>
  obtain ⟨t,rfl⟩:=rx
  cases y with
  |non=>cases ry;exact PySem.EqNone.eq_int_none (bi I q Jz)
  |int j=>obtain ⟨t',rfl⟩:=ry;exact eq_int (bi I q sX)
  |str j=>obtain ⟨t',rfl⟩:=ry;exact PySem.EqMixed.eq_int_str (bi I q Jz)
  |_=>exact absurd (show false=true from hs) zq3
 |str i=>
  obtain ⟨t,rfl⟩:=rx
  cases y with
  |non=>cases ry;exact PySem.EqNone.eq_str_none (bi I q Jz)
  |bl j=>cases ry;exact PySem.EqMixed.eq_str_bool (bi I q Jz)
  |int j=>obtain ⟨t',rfl⟩:=ry;exact PySem.EqMixed.eq_str_int (bi I q Jz)
  |str j=>obtain ⟨t',rfl⟩:=ry;exact eq_str (bi I q sY)
  |_=>exact absurd (show false=true from hs) zq3
 |byt i=>
  obtain ⟨t,rfl⟩:=rx
  cases y with
  |byt j=>obtain ⟨t',rfl⟩:=ry;exact W.eq_bytes (bi I q sW)
  |_=>exact absurd (show false=true from hs) zq3
 |_=>cases y<;>exact absurd (show false=true from hs) zq3
theorem me:OpR X (compareOp .NotEq) rNe:=by
 intro pins s σ H x y v u Q I rx ry h;obtain ⟨hs,q⟩:=h
 cases x with
 |non=>
  cases rx
  cases y with
  |non=>cases ry;exact PySem.EqNone.ne_none_none (bi I q Jz)
  |bl j=>cases ry;exact PySem.EqNone.ne_none_bool (bi I q Jz)
  |int j=>obtain ⟨t',rfl⟩:=ry;exact PySem.EqNone.ne_none_int (bi I q Jz)
  |str j=>obtain ⟨t',rfl⟩:=ry;exact PySem.EqNone.ne_none_str (bi I q Jz)
  |_=>exact absurd (show false=true from hs) zq3
 |bl i=>
  cases rx
  cases y with
  |non=>cases ry;exact PySem.EqNone.ne_bool_none (bi I q Jz)
  |bl j=>cases ry;exact ne_bool (bi I q (congrArg not xl))
  |str j=>obtain ⟨t',rfl⟩:=ry;exact PySem.EqMixed.ne_bool_str (bi I q Jz)
  |_=>exact absurd (show false=true from hs) zq3
 |int i=>
  obtain ⟨t,rfl⟩:=rx
  cases y with
  |non=>cases ry;exact PySem.EqNone.ne_int_none (bi I q Jz)
  |int j=>obtain ⟨t',rfl⟩:=ry;exact ne_int (bi I q (congrArg not sX))
  |str j=>obtain ⟨t',rfl⟩:=ry;exact PySem.EqMixed.ne_int_str (bi I q Jz)
  |_=>exact absurd (show false=true from hs) zq3
 |str i=>
  obtain ⟨t,rfl⟩:=rx
  cases y with
  |non=>cases ry;exact PySem.EqNone.ne_str_none (bi I q Jz)
  |bl j=>cases ry;exact PySem.EqMixed.ne_str_bool (bi I q Jz)
  |int j=>obtain ⟨t',rfl⟩:=ry;exact PySem.EqMixed.ne_str_int (bi I q Jz)
  |str j=>obtain ⟨t',rfl⟩:=ry;exact ne_str (bi I q (congrArg not sY))
  |_=>exact absurd (show false=true from hs) zq3
 |byt i=>
  obtain ⟨t,rfl⟩:=rx
  cases y with
  |byt j=>obtain ⟨t',rfl⟩:=ry;exact W.ne_bytes (bi I q (congrArg not sW))
  |_=>exact absurd (show false=true from hs) zq3
 |_=>cases y<;>exact absurd (show false=true from hs) zq3
theorem Hm:OpR X (compareOp .Lt) (rI0 fun i j=>.bl (decide (i<j))):=Bv fun _ _ _ _ _ _ _ q=>lt_int q
theorem Hl:OpR X (compareOp .LtE) (rI0 fun i j=>.bl (decide (i<=j))):=Bv fun _ _ _ _ _ _ _ q=>le_int q
theorem Hk:OpR X (compareOp .Gt) (rI0 fun i j=>.bl (decide (j<i))):=Bv fun _ _ _ _ _ _ _ q=>gt_int q
theorem Hj:OpR X (compareOp .GtE) (rI0 fun i j=>.bl (decide (j<=i))):=Bv fun _ _ _ _ _ _ _ q=>ge_int q
theorem rE:OpR X (compareOp .Is) (fun x y H Q=>y=.non/\Q (.bl (decide (x=.non))) H):=by
 intro pins s σ H x y v u Q I rx ry h;obtain ⟨rfl,q⟩:=h
 cases ry
 refine is_none_gen (bi I q ?_)
 cases x<;>first
  | (cases rx;rfl)
  | (obtain ⟨t,rfl⟩:=rx;rfl)
theorem iF:OpR X (compareOp .IsNot) (fun x y H Q=>y=.non/\Q (.bl (!decide (x=.non))) H):=by
 intro pins s σ H x y v u Q I rx ry h;obtain ⟨rfl,q⟩:=h
 cases ry
 refine isnot_none_gen (bi I q ?_)
 cases x<;>first
  | (cases rx;rfl)
  | (obtain ⟨t,rfl⟩:=rx;rfl)
theorem aA(b:Expr){op:CmpOp}(h:op≠.In:=by decide)(h2:op≠.NotIn:=by decide):behindInMarks op b=false:=by
 have e1:(op==CmpOp.In)=false:=by cases op<;>first | rfl | exact absurd rfl h
 have e2:(op==CmpOp.NotIn)=false:=by cases op<;>first | rfl | exact absurd rfl h2
 cases b<;>simp [behindInMarks,e1,e2]
def DQ(t:TE):TT:=fun σ H Q=>t σ H fun x H'=>∃k,x=.bl k/\Q k H'
theorem kf:(sizeLine:Nat)<2 ^ 63:=by rw [sizeLine_eq];decide
theorem rC:OpR X (binaryOp .Add) (fun x y H Q=>∃i j,x=.str i/\y=.str j/\i.length+j.length<=sizeLine/\Q (.str (i++j)) H):=by intro pins s σ H x y v u Q I rx ry h;obtain ⟨i,j,rfl,rfl,hz,q⟩:=h;obtain ⟨t,rfl⟩:=rx;obtain ⟨t',rfl⟩:=ry;exact add_str (fun t' tk=>zAA (.str (i++j)) H (I.tok _) ⟨_,rfl⟩ q) hz
theorem iS{x:V}{us:List Value}(r:Vals [x] us):∃u,us=[u]/\RelV x u:=by
 cases r with
 |cons r1 r2=>cases r2;exact zn _ rfl r1
theorem zN{x y:V}{us:List Value}(r:Vals [x,y] us):∃u w',us=[u,w']/\RelV x u/\RelV y w':=by
 cases r with
 |cons r1 r2=>
  cases r2 with
  |cons r3 r4=>cases r4;exact zAA _ _ rfl r1 r3
theorem uX(hc:X.calm=true):eP X (.builtin "max") (fun xs H Q=>∃i j,xs=[.int i,.int j]/\Q (.int (if j>i then j else i)) H):=by
 intro pins s σ H xs us Q I r h;obtain ⟨i,j,rfl,q⟩:=h;obtain ⟨u,w',rfl,⟨t,rfl⟩,⟨t',rfl⟩⟩:=zN r;refine max_two_ints (I.ok.hd hc) fun h' tk k=>zAA _ H (I.kept k) ?_ q
 by_cases hj:j>i
 ·rw [if_pos hj,if_pos hj];exact ⟨_,rfl⟩
 ·rw [if_neg hj,if_neg hj];exact ⟨_,rfl⟩
theorem j3:eP X (.type "int") (fun xs H Q=>(∃i,xs=[.int i]/\Q (.int i) H)\/∃k,xs=[.bl k]/\Q (.int (if k then 1 else 0)) H):=by
 intro pins s σ H xs us Q I r h;rcases h with ⟨i,rfl,q⟩ | ⟨k,rfl,q⟩
 ·obtain ⟨u,rfl,t,rfl⟩:=iS r;exact call_int_int (zAA (.int i) H I ⟨_,rfl⟩ q)
 ·obtain ⟨u,rfl,r1⟩:=iS r
  cases r1
  exact call_int_bool (zAA (.int (if k then 1 else 0)) H (I.tok _) ⟨_,rfl⟩ q)
end
end L2
namespace L2
structure ObjM(h:Heap)(x dx C:Addr)(mA:Str->Option Value):Prop where
 obj:h.get? x=some (W.instObj C dx)
 ns:h.Ns1 dx mA
 ne:dx≠x
theorem vB{h:Heap}{dx:Addr}{mA:Str->Option Value}(n:h.Ns1 dx mA):∃od,h.get? dx=some od/\∀name,W.lookIn name od=some (mA name):=by
 obtain ⟨o,es,ep,ho,hd,hk,_,hm⟩:=n;refine zn o ho fun name=>?_;have e:=hm name;unfold nsFind findBy at e;rw [<- Array.find?_toList] at e;unfold W.lookIn;rw [hd];dsimp only
 split
 ·rename_i y q
  rw [q] at e;exact congrArg some e
 ·rename_i q
  rw [q] at e;have a:es.toList.any (·.refKey)=false:=by rw [List.any_eq_false];intro y hy;obtain ⟨z,t,hkey⟩:=hk y (Array.mem_toList_iff.mp hy);simp [DictEntry.refKey,hkey]
  have a':¬es.toList.any (·.refKey)=true:=by rw [a];exact zq3
  rw [if_neg a'];exact congrArg some e
theorem ObjM.look{h:Heap}{x dx C:Addr}{mA:Str->Option Value}(I:ObjM h x dx C mA):∃od,W.InstAt h x (W.instObj C dx) C (some od)/\∀name,W.lookIn name od=some (mA name):=
 let ⟨od,ho,hl⟩:=vB I.ns
 (zn od ⟨I.obj,rfl,rfl,ho⟩ hl)
section
variable {prog:Program} {w:World} {A:Around} {E:Value->Shared->Prop} {s:Shared} {K:W.Frag} {x dx C f:Addr} {mA:Str->Option Value} {name:Str} {v:Value}
theorem B7{expr:Bool}{Q:Value->Shared->Prop}(X:K.In s.heap)(I:ObjM s.heap x dx C mA)(hg:W.plainGet K C name=true)(hh:W.hasDictIn K C=true)
  (ha:W.findIn K (.ref C) name=some none) (hv:mA name=some v) (hv':W.handedIn v=true) (h:Q v {s with toks:=s.toks+1}) :
  wpAny (model prog w) A (getAttr (.ref x) name expr) Q E s:=by
 obtain ⟨od,J,hl⟩:=I.look;exact W.get_value X J (W.plainGet_of hg).1 (W.findObj_own hh ha rfl (by rw [hl,hv])) hv' h
theorem xy{pl:Sem Bool}{Q:Value×List Value->Shared->Prop}(X:K.In s.heap)(I:ObjM s.heap x dx C mA)(hg:W.plainGet K C name=true)
  (hf:W.findIn K (.ref C) name=some (some (.ref f))) (ht:W.isFn K (.ref f)=true) (hv:mA name=none) (h:Q (.ref f,[.ref x]) s) :
  wpAny (model prog w) A (getMethod (.ref x) name pl) Q E s:=by
 obtain ⟨od,J,hl⟩:=I.look;exact W.method_fn X J (W.plainGet_of hg).1 (W.plainGet_of hg).2 hf (beq_iff_eq.mp ht) (by show (W.lookIn name od).map (·.isSome)=some false;rw [hl,hv];rfl) h
theorem C6{ns:List Str}{Q:Unit->Shared->Prop}(X:K.In s.heap)(I:ObjM s.heap x dx C mA)
  (hs:W.findIn K (.ref C) "__setattr__"=some (some (.builtin "object.__setattr__"))) (hp:W.plainOver K C=true) (ht:W.takerIn K C name=some none) (hh:W.hasDictIn K C=true)
  (hw:PySem.Within mA ns) (hsz:ns.length<=sizeLine)
  (h:∀h',ObjM h' x dx C (fun y=>if y=name then some v else mA y)->Heap.SameBut dx s.heap h'->Q () {s with heap:=h',toks:=s.toks+2}) :
  wpAny (model prog w) A (setAttr (.ref x) name v) Q E s:=by
 obtain ⟨od,J,hl⟩:=I.look;refine W.set_plain X J hs (W.osa_open (s:={s with toks:=s.toks+1}) (r:=none) X J hp ht fun b=>?_);obtain ⟨cd,hc,hd'⟩:=W.any_some hh;have hx:s.heap.get? x=some ⟨.ref C,some dx,.plain,#[]⟩:=I.obj;refine wpAny_bind (wpAny_pure (wpAny_bind (wpAny_bind (wpAny_loadPart hx (wpAny_bind (W.Looks.here (s:={s with toks:=s.toks+1}) (W.looks_clsIn X hc) ?_))))));rw [hd'];refine wpAny_pure (a:=some dx) (wpAny_bind (wpAny_pure (wpAny_bind ?_)));refine wpAny_nsSet1 (s:={s with toks:=s.toks+1}) I.ns fun h' hn2 hs2=>?_;obtain ⟨oD,esD,epD,hoD,hdD,hcD⟩:=hn2.count (PySem.Within.cons name v hw);refine wpAny_bind (wpAny_lookBehind hoD (by rw [hdD];exact pastItsLine_dict (cL hcD (by rw [cJ];omega))) ?_);exact wpAny_pure (h _ ⟨(hs2.2 _ (Ne.symm I.ne)).trans I.obj,hn2,I.ne⟩ hs2)
theorem xN{R:Result->Shared->Prop}{vs:List Value}{kw:List (Str×Value)}(X:K.In s.heap)(hm:W.makesIn K C=true)
  (hi:W.findIn K (.ref C) "__init__"=some (some (.ref f))) (hf:W.typeIn K (.ref f)=some (.type "function"))
  (h:codeAny (model prog w) (A.under (.builtin "type.__call__" ⟨.ref C::vs,kw⟩)) (.call (.ref f) ⟨.ref (s.heap.objs.size+1)::vs,kw⟩) (W.InitBack (s.heap.objs.size+1) R)
   {s with heap:=(s.heap.push W.emptyDict).push (W.instObj C s.heap.objs.size)}) :
  codeAny (model prog w) A (.call (.ref C) ⟨vs,kw⟩) R s:=by
 obtain ⟨hh,g,d,t,os⟩:=s;exact W.make_core (W.makes_of X hm) (W.looks_findIn X hi) (fun self=>W.bind_fn X self hf) (.inl rfl) h
end
def dc(f:Str)(v:V):List (Str×V)->List (Str×V)
 | []=>[(f,v)]
 | (g,x)::r=>if g=f then (g,v)::r else (g,x)::dc f v r
theorem jp(f g:Str)(v:V):∀fs:List (Str×V),(dc f v fs).lookup g=if g=f then some v else fs.lookup g
 | []=>by
  show List.lookup g [(f,v)]=_
  by_cases h:g=f
  ·have hb:(g==f)=true:=beq_iff_eq.mpr h;simp only [List.lookup,hb,if_pos h]
  ·have hb:(g==f)=false:=beq_eq_false_iff_ne.mpr h;simp only [List.lookup,hb,if_neg h]
 | (k,x)::r=>by
  have ih:=jp f g v r;rw [show dc f v ((k,x)::r)=(if k=f then (k,v)::r else (k,x)::dc f v r) from rfl]
  by_cases hk:k=f
  ·rw [if_pos hk]
   by_cases h:g=k
   ·have hb:(g==k)=true:=beq_iff_eq.mpr h;simp only [List.lookup,hb,if_pos (h.trans hk)]
   ·have hb:(g==k)=false:=beq_eq_false_iff_ne.mpr h;simp only [List.lookup,hb,if_neg (fun e:g=f=>h (e.trans hk.symm))]
  ·rw [if_neg hk]
   by_cases h:g=k
   ·have hb:(g==k)=true:=beq_iff_eq.mpr h;simp only [List.lookup,hb,if_neg (fun e:g=f=>hk (h.symm.trans e))]
   ·have hb:(g==k)=false:=beq_eq_false_iff_ne.mpr h;simp only [List.lookup,hb];exact ih
theorem j8(f:Str)(v:V):∀fs:List (Str×V),f∈(dc f v fs).map (·.1)/\∀g,g∈fs.map (·.1)->g∈(dc f v fs).map (·.1)
 | []=>⟨by simp [dc],fun g h=>by simp at h⟩
 | (k,x)::r=>by
  obtain ⟨i1,i2⟩:=j8 f v r;rw [show dc f v ((k,x)::r)=(if k=f then (k,v)::r else (k,x)::dc f v r) from rfl]
  by_cases hk:k=f
  ·rw [if_pos hk];subst hk;exact ⟨Jz,fun g h=>by simpa using h⟩
  ·rw [if_neg hk];refine ⟨?_,fun g h=>?_⟩
   ·rw [d9];exact zq6 _ i1
   ·rw [d9] at h ⊢;rcases zq5.mp h with e | e
    ·exact zq5.mpr (.inl e)
    ·exact zq6 _ (i2 g e)
theorem jo(f:Str)(v:V):∀fs:List (Str×V),(dc f v fs).length<=fs.length+1
 | []=>by simp [dc]
 | (k,x)::r=>by
  have ih:=jo f v r;rw [show dc f v ((k,x)::r)=(if k=f then (k,v)::r else (k,x)::dc f v r) from rfl]
  by_cases hk:k=f
  ·rw [if_pos hk,cJ,cJ];omega
  ·rw [if_neg hk,cJ,cJ];omega
theorem RelO.some_of{v:V}{o:Option Value}(r:RelO (some v) o):∃u,o=some u/\RelV v u:=by
 cases o with
 |none=>exact (show False from r).elim
 |some u=>exact zn u rfl r
theorem RelO.none_of{o:Option Value}(r:RelO none o):o=none:=by
 cases o with
 |none=>rfl
 |some u=>exact (show False from r).elim
theorem vk{v:V}{u:Value}(r:RelV v u):W.handedIn u=true:=by
 cases v with
 |non=>cases (show u=Value.none from r);rfl
 |bl b=>cases (show u=Value.bool b from r);rfl
 |int i=>obtain ⟨t,e⟩:=(show ∃t,u=Value.int i t from r);cases e;rfl
 |str x=>obtain ⟨t,e⟩:=(show ∃t,u=Value.str x t from r);cases e;rfl
 |byt b=>obtain ⟨t,e⟩:=(show ∃t,u=Value.bytes b t from r);cases e;rfl
 |flt b=>obtain ⟨t,e⟩:=(show ∃t,u=Value.float b t from r);cases e;rfl
 |ref a=>cases (show u=Value.ref a from r);rfl
 |ty n=>cases (show u=Value.type n from r);rfl
section
variable {P:Program} {w:World} {H H':Hp} {h h':Heap} {a C dx:Addr} {fs fs':List (Str×V)}
theorem mV(hok:HOk P w H h)(e:H a=some (.ins C dx fs)):∃mA,ObjM h a dx C mA/\(∀f,RelO (fs.lookup f) (mA f))/\PySem.Within mA (fs.map (·.1))/\fs.length<=1000/\H dx=some (.own a):=by
 obtain ⟨d,z,ne,ob,mA,n,r,q⟩:=(show ObjOk P w H h a (.ins C dx fs) from hok a _ e)
 exact zAZ mA ⟨ob,n,ne⟩ r q z d
end
structure Cls(K:W.Frag)(C:Addr):Prop where
 pg:W.plainGet K C Str.empty=true
 hd:W.hasDictIn K C=true
 po:W.plainOver K C=true
 sa:W.findIn K (.ref C) "__setattr__"=some (some (.builtin "object.__setattr__"))
theorem Cls.get{K:W.Frag}{C:Addr}(c:Cls K C)(f:Str):W.plainGet K C f=true:=c.pg
def NoAttr(K:W.Frag)(C:Addr)(f:Str):Prop:=W.findIn K (.ref C) f=some none
theorem NoAttr.taker{K:W.Frag}{C:Addr}{f:Str}(n:NoAttr K C f):W.takerIn K C f=some none:=by unfold W.takerIn;rw [show W.findIn K (.ref C) f=some none from n];rfl
structure uT(K:W.Frag)(C:Addr)(m:Str)(f:Addr):Prop where
 at_:W.findIn K (.ref C) m=some (some (.ref f))
 fn:W.isFn K (.ref f)=true
 kp:W.keepIn K (.ref f)=true
section
variable {X:Cx} {pins:List (Addr×Obj)} {σ:St} {H:Hp} {s:Shared} {a C dx:Addr} {fs:List (Str×V)} {f:Str} {v:V} {A:Around} {E:Value->Shared->Prop}
theorem rc{b:Bool}{Q:Value->Shared->Prop}(I:Inv X pins σ H s)(e:H a=some (.ins C dx fs))(c:Cls X.K C)(n:NoAttr X.K C f)(l:fs.lookup f=some v)
  (h:∀u s',Inv X pins σ H s'->RelV v u->Q u s'):wpAny (model X.prog X.w) A (getAttr (.ref a) f b) Q E s:=by
 obtain ⟨mA,O,r,_,_,_⟩:=mV I.hok e;obtain ⟨u,hu,ru⟩:=RelO.some_of (v:=v) (o:=mA f) (by rw [<- l];exact r f);exact B7 I.kIn O (c.get f) c.hd n hu (vk ru) (h u _ (I.tok _) ru)
theorem i8{m:Str}{g:Addr}{pl:Sem Bool}{Q:Value×List Value->Shared->Prop}(I:Inv X pins σ H s)(e:H a=some (.ins C dx fs))(c:Cls X.K C)(k:uT X.K C m g)(l:fs.lookup m=none)
  (h:Q (.ref g,[.ref a]) s):wpAny (model X.prog X.w) A (getMethod (.ref a) m pl) Q E s:=by
 obtain ⟨mA,O,r,_,_,_⟩:=mV I.hok e;have hn:mA m=none:=RelO.none_of (by rw [<- l];exact r m);exact xy I.kIn O (c.get m) k.at_ k.fn hn h
theorem rW{y:V}{u:Value}{Q:Unit->Shared->Prop}(I:Inv X pins σ H s)(e:H a=some (.ins C dx fs))(c:Cls X.K C)(n:NoAttr X.K C f)(hl:fs.length<1000)(ry:RelV y u)
  (h:∀s',Inv X pins σ (upd H a (.ins C dx (dc f y fs))) s'->Q () s'):wpAny (model X.prog X.w) A (setAttr (.ref a) f u) Q E s:=by
 obtain ⟨mA,O,r,wi,_,ho⟩:=mV I.hok e;have hz:(fs.map (·.1)).length<=sizeLine:=by rw [zq1,sizeLine_eq];omega
 refine C6 I.kIn O c.sa c.po n.taker c.hd wi hz fun h' O' sb=>h _ ?_;have hd:∃o,h'.get? dx=some o:=let ⟨o,_,_,e',_⟩:=O'.ns;⟨o,e'⟩;refine I.write (x:=a) (e:=dx) (by rw [e];exact True.intro) (.inr ho) (fun b q hb z=>(sb.2 b hb).trans z) hd ?_;refine zAI (by rw [ao O.ne];exact ho) ?_ O.ne O'.obj (zAC _ O'.ns (fun g=>?_) fun g hg=>?_)
 ·have:=jo f y fs;omega
 ·show RelO ((dc f y fs).lookup g) (if g=f then some u else mA g);rw [jp]
  by_cases q:g=f
  ·rw [if_pos q,if_pos q];exact ry
  ·rw [if_neg q,if_neg q];exact r g
 ·by_cases q:g=f
  ·rw [q];exact (j8 f y fs).1
  ·refine (j8 f y fs).2 g (wi g fun z=>hg ?_);show (if g=f then some u else mA g)=none;rw [if_neg q];exact z
theorem Inv.made(I:Inv X pins σ H s):Inv X pins σ (upd (upd H s.heap.objs.size (.own (s.heap.objs.size+1))) (s.heap.objs.size+1) (.ins C s.heap.objs.size []))
  {s with heap:=(s.heap.push W.emptyDict).push (W.instObj C s.heap.objs.size)}:=by
 have e1:(s.heap.push W.emptyDict).get? s.heap.objs.size=some W.emptyDict:=dA s.heap rfl;have e2:((s.heap.push W.emptyDict).push (W.instObj C s.heap.objs.size)).get? (s.heap.objs.size+1)=some (W.instObj C s.heap.objs.size):=by have:=dA (s.heap.push W.emptyDict) (o:=W.instObj C s.heap.objs.size) rfl;rwa [lA] at this
 have e3:(s.heap.push W.emptyDict).Ns s.heap.objs.size (fun _=>none):=zAO W.emptyDict (#[]) _ e1 rfl (fun e he=>absurd he Jz) fun _=>rfl
 have I1:=I.laid (a:=s.heap.objs.size) (o:=.own (s.heap.objs.size+1)) (h':=s.heap.push W.emptyDict) (t':=s.toks) (fun b u q=>bX _ q) (zq0 _) ⟨_,e1⟩;refine I1.laid (a:=s.heap.objs.size+1) (o:=.ins C s.heap.objs.size []) (t':=s.toks) (fun b u q=>bX _ q) (wI (lA _ _)) ?_;have ne:s.heap.objs.size≠s.heap.objs.size+1:=cx (uH _);refine zAI (by rw [ao ne,ac]) (cm _) ne e2 (zAC (fun _=>none) ((Heap.Ns1.of_empty e3).at fun o q=>bX _ q) (fun _=>True.intro) fun y hy=>absurd rfl hy)
theorem AM{prog:Program}{w:World}{env:Env}{e:Expr}{f:Str}{pos:Pos}{s:Shared}{Q:Value->Shared->Prop}(hb:attributeBase e f env (eval e env)=eval e env)
  (h:wpAny (model prog w) A (eval e env) (fun o s₁=>wpAny (model prog w) A (getAttr o f true) Q E s₁) E s):wpAny (model prog w) A (eval (.Attribute e f pos) env) Q E s:=
 Attribute_any_ h (by rw [arm_eval_Attribute,hb])
end
def Ip(K:W.Frag)(ta:TE)(f:Str):TE:=fun σ H Q=>ta σ H fun x H1=>∃a C dx fs v,x=.ref a/\H1 a=some (.ins C dx fs)/\Cls K C/\NoAttr K C f/\fs.lookup f=some v/\Q v H1
def Il(K:W.Frag)(ta tv:TE)(f:Str):TS:=fun D σ H=>tv σ H fun y H1=>ta σ H1 fun x H2=>∃a C dx fs,x=.ref a/\H2 a=some (.ins C dx fs)/\Cls K C/\NoAttr K C f/\fs.length<1000/\
 D.nx σ (upd H2 a (.ins C dx (dc f y fs)))
section
variable {X:Cx} {o e value:Expr} {f:Str} {pos pos' tpos:Pos} {ta tv:TE}
theorem Cz{pl:Sem Bool}{m:Str}{apos:Pos}{args:List Expr}{pins:List (Addr×Obj)}{s:Shared}{σ:St}{H:Hp}{Q:Value->Shared->Prop}{te:TE}(he:PE X e te)(I:Inv X pins σ H s)
  (h:te σ H fun x H1=>∃a C dx fs g,x=.ref a/\H1 a=some (.ins C dx fs)/\Cls X.K C/\uT X.K C m g/\fs.lookup m=none/\
   ∀s1,Inv X pins σ H1 s1->wpAny (model X.prog X.w) X.A (callWith pos (.ref g) [.ref a] (backTo pos (starEach args X.env)) (backToKw pos (keywordEach [] X.env))) Q X.xe s1)
  (ht:eval (.Call (.Attribute e m apos) args [] pos) X.env=(do
   let ov <- eval e X.env
   standAt apos.atName
   let (f,first) <- holding [ov] (getMethod ov m pl)
   callWith pos f first (backTo pos (starEach args X.env)) (backToKw pos (keywordEach [] X.env)))) :
  wpAny (model X.prog X.w) X.A (eval (.Call (.Attribute e m apos) args [] pos) X.env) Q X.xe s:=by
 refine W.methodCall_KW (pl:=pl) (thn (he pins s σ H _ I h) fun u s1 hhx=>?_) ht;obtain ⟨x,H1,I1,rx,a,C,dx,fs,g,ex,ea,c,k,l,q⟩:=hhx;subst ex;obtain rfl:u=Value.ref a:=rx;exact i8 I1 ea c k l (q s1 I1)
end
section
variable {X:Cx} {pins:List (Addr×Obj)} {σ:St} {H:Hp} {s:Shared} {A:Around} {E:Value->Shared->Prop} {Q:Value->Shared->Prop} {c:Value} {b:Bool}
end
end L2
namespace L2
structure Room(k:Nat)(A:Around):Prop where
 hd:A.handled=none
 dp:A.depth+3 * k+5<recursionLimit
 un:A.units+16 * k+200<cLine
theorem Room.mono{j k:Nat}{A:Around}(r:Room k A)(h:j<=k):Room j A:=⟨r.hd,by have:=r.dp;omega,by have:=r.un;omega⟩
theorem Room.m{n m:Nat}{A:Around}(h:Room n A)(l:m<=n:=by first | decide | omega):Room m A:=h.mono l
theorem Room.deeper{k:Nat}{A:Around}(r:Room (k+1) A)(env:Env):Room k (A.deeper env):=
 ⟨r.hd,by have:=r.dp;show A.depth+1+3 * k+5<_;omega,by have:=r.un;show A.units+3+16 * k+200<_;omega⟩
theorem rh{A:Around}{C:Addr}{us:List Value}{kw:List (Str×Value)}:(A.under (.builtin "type.__call__" ⟨.ref C::us,kw⟩)).depth=A.depth+1:=by first | rfl | simp [Around.under,Code.weight,Code.isCreation,Code.isGuard,Code.isCaller,Code.frames,Code.isFrame,guardIds]
theorem rj{A:Around}{C:Addr}{us:List Value}{kw:List (Str×Value)}:(A.under (.builtin "type.__call__" ⟨.ref C::us,kw⟩)).units=A.units+1:=by first | rfl | simp [Around.under,Code.cUnits,Code.frames,Code.isFrame]
theorem Room.make{k:Nat}{A:Around}(r:Room (k+1) A)(C:Addr)(us:List Value)(kw:List (Str×Value)):Room k (A.under (.builtin "type.__call__" ⟨.ref C::us,kw⟩)):=
 ⟨r.hd,by have:=r.dp;rw [rh];omega,by have:=r.un;rw [rj];omega⟩
theorem Room.depth{k:Nat}{A:Around}(r:Room k A):A.depth<recursionLimit:=by have:=r.dp;omega
theorem Room.units{k:Nat}{A:Around}(r:Room k A):A.units+64<cLine:=by have:=r.un;omega
theorem Room.units0{k:Nat}{A:Around}(r:Room k A):A.units<cLine:=by have:=r.un;omega
def lj:TA:=fun _ H Q=>Q [] H
def kK(ta:TE)(tr:TA):TA:=fun σ H Q=>ta σ H fun x H1=>tr σ H1 fun xs H2=>Q (x::xs) H2
section
variable {X:Cx} {e:Expr} {es:List Expr} {te:TE} {t:TA} {pos:Pos}
theorem yj:PA X [] lj:=fun _ _ _ _ H Q I h=>Calls.spliced_nil (zAA ([]) H I .nil h)
theorem tM(ha:PE X e te)(hr:PA X es t)(hs:starEach (e::es) X.env=(false,eval e X.env)::starEach es X.env:=by rfl):PA X (e::es) (kK te t):=by intro pos pins s σ H Q I h;rw [hs];show wpAny _ _ (spliced ((false,eval e X.env)::backTo pos (starEach es X.env))) _ _ s;refine Calls.spliced_cons (thn (ha pins s σ H _ I h) fun u s1 hhx=>?_);obtain ⟨x,H1,I1,r1,q1⟩:=hhx;exact thn (hr pos pins s1 σ H1 _ I1 q1) fun us s2 ⟨xs,H2,I2,r2,q2⟩=>zAA (x::xs) H2 I2 (.cons r1 r2) q2
def Cb(t:TA):TE:=fun σ H Q=>t σ H fun xs H1=>xs.length<=sizeLine/\∀p,H1 p=none->Q (.ref p) (upd H1 p (.tup xs))
def Iq(t:TA):TE:=fun σ H Q=>t σ H fun xs H1=>xs.length<=sizeLine/\∀p,H1 p=none->Q (.ref p) (upd H1 p (.lst xs))
end
abbrev Sp:=List V->Hp->VK->XK->Prop
abbrev CXT:=List Env->Hp->Shared->XK->Value->Shared->Prop
structure Env0(P:Program)(w:World)(K:W.Frag)(mg:Str->Option Value)(base:Heap)(A:Around)(outer:List Env)(s:Shared)(H:Hp):Prop where
 frames:A.frames=some outer
 mod:Mod K mg base
 bs:∀b o,base.get? b=some o->s.heap.get? b=some o/\H b=none
 bsz:base.objs.size<=s.heap.objs.size
 funs:s.heap.FunFrames base outer
 frf:∀b∈frs outer,H b=none
 hok:HOk P w H s.heap
 bare:AllBare s.gens
def CE(outer:List Env)(P:Program)(w:World)(H:Hp)(s:Shared)(Q:VK)(u:Value)(s':Shared):Prop:=
 ∃v H',s'.os=s.os/\AllBare s'.gens/\Un (frs outer) [] H H' s.heap s'.heap/\HOk P w H' s'.heap/\RelV v u/\Q v H'
def CR(CX:CXT)(outer:List Env)(P:Program)(w:World)(H:Hp)(s:Shared)(Q:VK)(E:XK)(r:Result)(s':Shared):Prop:=
 match r with
 | .ok (.ret u)=>CE outer P w H s Q u s'
 | .ok _=>False
 | .error e=>CX outer H s E e s'
structure FnOk(P:Program)(w:World)(K:W.Frag)(mg:Str->Option Value)(base:Heap)(CX:CXT)(k:Nat)(f:Addr)(fd:FuncData)(ps:List Str)(sp:Sp):Prop where
 len:∀vs H Q E,sp vs H Q E->vs.length=ps.length
 run:∀(A:Around)(outer:List Env)(s:Shared)(H:Hp)(args:Args)(us:List Value)(vs:List V)(Q:VK)(E:XK),Room k A->Env0 P w K mg base A outer s H->BindsTo s fd args (ps.zip us)->Vals vs us->sp vs H Q E->
  codeAny (model P w) A (.call (.ref f) args) (CR CX outer P w H s Q E) s
theorem FnOk.mono{P:Program}{w:World}{K:W.Frag}{mg:Str->Option Value}{base:Heap}{CX:CXT}{j k:Nat}{f:Addr}{fd:FuncData}{ps:List Str}{sp:Sp}(F:FnOk P w K mg base CX j f fd ps sp)(h:j<=k):
  FnOk P w K mg base CX k f fd ps sp:=⟨F.len,fun A outer s H args us vs Q E hr=>F.run A outer s H args us vs Q E (hr.mono h)⟩
theorem Env0.make{P:Program}{w:World}{K:W.Frag}{mg:Str->Option Value}{base:Heap}{A:Around}{outer:List Env}{s:Shared}{H:Hp}(e:Env0 P w K mg base A outer s H)(C:Addr)(us:List Value)(kw:List (Str×Value)):
  Env0 P w K mg base (A.under (.builtin "type.__call__" ⟨.ref C::us,kw⟩)) outer s H:=⟨by first | exact e.frames | (simpa [Around.under,Code.envs,Code.isFrame,pushEnvs] using e.frames),e.mod,e.bs,e.bsz,e.funs,e.frf,e.hok,e.bare⟩
section
variable {X:Cx} {pins:List (Addr×Obj)} {σ:St} {H:Hp} {s s':Shared}
theorem Inv.env0(I:Inv X pins σ H s):Env0 X.prog X.w X.K X.mg X.base X.A X.stack s H:=
 ⟨I.ok.frames,I.ok.mod,I.bs,cL I.ok.bsz I.sz,I.stack,I.stkFree,I.hok,I.bare⟩
theorem Inv.after{Q:VK}{u:Value}(I:Inv X pins σ H s)(h:CE X.stack X.prog X.w H s Q u s'):EP X pins σ Q u s':=by obtain ⟨v,H',os,bare,un,hok,r,q⟩:=h;obtain ⟨hh,g,d,t,os'⟩:=s';obtain rfl:os'=s.os:=os;exact zAA v H' (I.call (h':=hh) (g':=g) (d':=d) (t':=t) (ch:=[]) un hok bare (fun b z=>absurd z Jz)) r q
end
def qr(sp:Sp)(dvs:List V)(E:XK)(t:TA):TE:=fun σ H Q=>t σ H fun vs H1=>sp (vs++dvs) H1 Q E
def iR(C:Addr)(m:Str)(sp:Sp)(dvs:List V)(E:XK)(ta:TE)(t:TA):TE:=fun σ H Q=>ta σ H fun x H1=>∃a dx fs,x=.ref a/\H1 a=some (.ins C dx fs)/\fs.lookup m=none/\
 t σ H1 fun vs H2=>sp (x::(vs++dvs)) H2 Q E
def kM(C:Addr)(sp:Sp)(dvs:List V)(E:XK)(t:TA):TE:=fun σ H Q=>t σ H fun vs H1=>∀x dx,H1 x=none->H1 dx=none->dx≠x->
 sp (.ref x::(vs++dvs)) (upd (upd H1 dx (.own x)) x (.ins C dx [])) (fun v H2=>v=.non/\Q (.ref x) H2) E
def Binds(K:W.Frag)(fd:FuncData)(ps:List Str)(ds:List Value):Prop:=
 ∀(s:Shared)(us:List Value),K.In s.heap->(us++ds).length=ps.length->BindsTo s fd ⟨us,[]⟩ (ps.zip (us++ds))
theorem Binds.all{K:W.Frag}{fd:FuncData}{ps:List Str}(h:∀us:List Value,us.length=ps.length->bindArgs fd ⟨us,[]⟩=pure (ps.zip us)):Binds K fd ps []:=fun s us _ hl=>by rw [gQ] at hl ⊢;exact .of_eq (h us hl)
def ff(CX:CXT)(X:Cx)(E:XK):Prop:=∀(pins:List (Addr×Obj)) (σ:St) (H:Hp) (s:Shared) (e:Value) (s':Shared),Inv X pins σ H s->CX X.stack H s E e s'->X.xe e s'
section
variable {X:Cx} {CX:CXT} {k:Nat} {f C:Addr} {fd:FuncData} {ps:List Str} {sp:Sp} {dvs:List V} {ds:List Value} {E:XK} {x m:Str} {p pos apos:Pos} {e o:Expr} {es:List Expr} {ta:TE} {t:TA}
theorem rS{pins:List (Addr×Obj)}{σ:St}{H:Hp}{s:Shared}{Q:VK}{us:List Value}{vs:List V}(F:FnOk X.prog X.w X.K X.mg X.base CX k f fd ps sp)(hr:Room k X.A)(hb:Binds X.K fd ps ds)(hd:Vals dvs ds)(hx:ff CX X E)
  (I:Inv X pins σ H s) (r:Vals vs us) (h:sp (vs++dvs) H Q E):wpAny (model X.prog X.w) X.A (call (.ref f) us) (EP X pins σ Q) X.xe s:=by
 have r2:Vals (vs++dvs) (us++ds):=r.append hd;have hl:(us++ds).length=ps.length:=by rw [<- r2.length];exact F.len _ _ _ _ h
 refine wpAny_call (codeAny_mono (F.run X.A X.stack s H ⟨us,[]⟩ (us++ds) (vs++dvs) Q E hr I.env0 (hb s us I.kIn hl) r2 h) fun r s' hq=>?_)
 cases r with
 |error e=>exact hx pins σ H s e s' I hq
 |ok fl=>
  cases fl with
  |ret u=>exact I.after hq
  |next=>exact False.elim hq
  |brk=>exact False.elim hq
  |cont=>exact False.elim hq
theorem BA(F:FnOk X.prog X.w X.K X.mg X.base CX k f fd ps sp)(hr:Room k X.A)(hg:Gl X x)(hm:X.mg x=some (.ref f))(hk:W.keepIn X.K (.ref f)=true)(hb:Binds X.K fd ps ds)(hd:Vals dvs ds)(hx:ff CX X E)
  (ha:PA X (e::es) t) (hdb:(x==("__debug__":Str))=false:=by decide) (he:starEach (e::es) X.env=(false,eval e X.env)::starEach es X.env:=by rfl) (hpl:(backTo pos (starEach es X.env)).any (·.1)=false:=by rfl) :
  PE X (.Call (.Name x p) (e::es) [] pos) (qr sp dvs E t):=by
 intro pins s σ H Q I h;refine wpAny_Call_Name_kw (iB I hg hm ?_ hdb);refine W.callWith_K (h₀:=X.base) I.ok.mod.kin hk (thn (ha pos pins s σ H _ I h) fun us s1 ⟨vs,H1,I1,r,q⟩=>⟨I1.kIn,?_⟩) he hpl;exact rS F hr hb hd hx I1 r q
theorem tN{pl:Sem Bool}(he:PE X o ta)(c:Cls X.K C)(hm:uT X.K C m f)(F:FnOk X.prog X.w X.K X.mg X.base CX k f fd ps sp)(hr:Room k X.A)(hb:Binds X.K fd ps ds)(hd:Vals dvs ds)(hx:ff CX X E)(ha:PA X (e::es) t)
  (hst:starEach (e::es) X.env=(false,eval e X.env)::starEach es X.env:=by rfl) (hpl:(backTo pos (starEach es X.env)).any (·.1)=false:=by rfl)
  (ht:eval (.Call (.Attribute o m apos) (e::es) [] pos) X.env=(do
   let ov <- eval o X.env
   standAt apos.atName
   let (f,first) <- holding [ov] (getMethod ov m pl)
   callWith pos f first (backTo pos (starEach (e::es) X.env)) (backToKw pos (keywordEach [] X.env))):=by rfl) :
  PE X (.Call (.Attribute o m apos) (e::es) [] pos) (iR C m sp dvs E ta t):=by
 intro pins s σ H Q I h;refine W.methodCall_KW (pl:=pl) (thn (he pins s σ H _ I h) fun u s1 hhx=>?_) ht;obtain ⟨x,H1,I1,rx,a,dx,fs,ex,ea,l,q⟩:=hhx;subst ex;obtain rfl:u=Value.ref a:=rx;refine i8 I1 ea c hm l ?_;refine W.callWith_K (first:=[.ref a]) (h₀:=X.base) I.ok.mod.kin hm.kp (thn (ha pos pins s1 σ H1 _ I1 q) fun us s2 ⟨vs,H2,I2,r,q2⟩=>⟨I2.kIn,?_⟩) hst hpl;exact rS (us:=.ref a::us) (vs:=.ref a::vs) F hr hb hd hx I2 (.cons rfl r) q2
theorem yr{pl:Sem Bool}(he:PE X o ta)(c:Cls X.K C)(hm:uT X.K C m f)(F:FnOk X.prog X.w X.K X.mg X.base CX k f fd ps sp)(hr:Room k X.A)(hb:Binds X.K fd ps ds)(hd:Vals dvs ds)(hx:ff CX X E)
  (ht:eval (.Call (.Attribute o m apos) [] [] pos) X.env=(do
   let ov <- eval o X.env
   standAt apos.atName
   let (f,first) <- holding [ov] (getMethod ov m pl)
   callWith pos f first (backTo pos (starEach [] X.env)) (backToKw pos (keywordEach [] X.env))):=by rfl) :
  PE X (.Call (.Attribute o m apos) [] [] pos) (iR C m sp dvs E ta lj):=by
 intro pins s σ H Q I h;refine W.methodCall_KW (pl:=pl) (thn (he pins s σ H _ I h) fun u s1 hhx=>?_) ht;obtain ⟨x,H1,I1,rx,a,dx,fs,ex,ea,l,q⟩:=hhx;subst ex;obtain rfl:u=Value.ref a:=rx;refine i8 I1 ea c hm l ?_;exact W.callWith_K0 (first:=[.ref a]) I1.kIn hm.kp (rS (us:=[.ref a]) (vs:=[.ref a]) F hr hb hd hx I1 (.cons rfl .nil) q)
structure Mk(K:W.Frag)(C f:Addr):Prop where
 makes:W.makesIn K C=true
 init:W.findIn K (.ref C) "__init__"=some (some (.ref f))
 fn:W.isFn K (.ref f)=true
 kp:W.keepIn K (.ref C)=true
theorem pP{pins:List (Addr×Obj)}{σ:St}{H:Hp}{s:Shared}{Q:VK}{us:List Value}{vs:List V}(M:Mk X.K C f)(F:FnOk X.prog X.w X.K X.mg X.base CX k f fd ps sp)(hr:Room (k+1) X.A)(hb:Binds X.K fd ps ds)(hd:Vals dvs ds)
  (hx:ff CX X E) (I:Inv X pins σ H s) (r:Vals vs us)
  (h:∀x dx,H x=none->H dx=none->dx≠x->sp (.ref x::(vs++dvs)) (upd (upd H dx (.own x)) x (.ins C dx [])) (fun v H2=>v=.non/\Q (.ref x) H2) E) :
  wpAny (model X.prog X.w) X.A (call (.ref C) us) (EP X pins σ Q) X.xe s:=by
 have hq:=h (s.heap.objs.size+1) s.heap.objs.size (I.hok.fresh (Aw _)) (I.hok.fresh (zq0 _)) (cx (uH _));have I2:=Inv.made (C:=C) I;have r2:Vals (V.ref (s.heap.objs.size+1)::(vs++dvs)) (Value.ref (s.heap.objs.size+1)::(us++ds)):=.cons rfl (r.append hd);have hl:(Value.ref (s.heap.objs.size+1)::us++ds).length=ps.length:=by have e:=r2.length;rw [F.len _ _ _ _ hq] at e;exact e.symm
 refine wpAny_call (xN (f:=f) I.kIn M.makes M.init (beq_iff_eq.mp M.fn) (codeAny_mono (F.run _ X.stack _ _ ⟨Value.ref (s.heap.objs.size+1)::us,[]⟩ (Value.ref (s.heap.objs.size+1)::(us++ds)) _ _ E (hr.make C us [])
  (I2.env0.make C us []) (hb _ (Value.ref (s.heap.objs.size+1)::us) I2.kIn hl) r2 hq) fun r s' hq'=>?_))
 cases r with
 |error e=>exact hx pins σ _ _ e s' I2 hq'
 |ok fl=>
  cases fl with
  |ret u=>
   obtain ⟨v,H',I3,rv,ev,q3⟩:=I2.after hq';subst ev;exact ⟨rv,zAA (V.ref (s.heap.objs.size+1)) H' I3 rfl q3⟩
  |next=>exact False.elim hq'
  |brk=>exact False.elim hq'
  |cont=>exact False.elim hq'
theorem BC(M:Mk X.K C f)(F:FnOk X.prog X.w X.K X.mg X.base CX k f fd ps sp)(hr:Room (k+1) X.A)(hg:Gl X x)(hm:X.mg x=some (.ref C))(hb:Binds X.K fd ps ds)(hd:Vals dvs ds)(hx:ff CX X E)
  (ha:PA X (e::es) t) (hdb:(x==("__debug__":Str))=false:=by decide) (he:starEach (e::es) X.env=(false,eval e X.env)::starEach es X.env:=by rfl) (hpl:(backTo pos (starEach es X.env)).any (·.1)=false:=by rfl) :
  PE X (.Call (.Name x p) (e::es) [] pos) (kM C sp dvs E t):=by
 intro pins s σ H Q I h;refine wpAny_Call_Name_kw (iB I hg hm ?_ hdb);refine W.callWith_K (h₀:=X.base) I.ok.mod.kin M.kp (thn (ha pos pins s σ H _ I h) fun us s1 ⟨vs,H1,I1,r,q⟩=>⟨I1.kIn,?_⟩) he hpl;exact pP M F hr hb hd hx I1 r q
theorem yq(M:Mk X.K C f)(F:FnOk X.prog X.w X.K X.mg X.base CX k f fd ps sp)(hr:Room (k+1) X.A)(hg:Gl X x)(hm:X.mg x=some (.ref C))(hb:Binds X.K fd ps ds)(hd:Vals dvs ds)(hx:ff CX X E)
  (hdb:(x==("__debug__":Str))=false:=by decide):PE X (.Call (.Name x p) [] [] pos) (kM C sp dvs E lj):=by
 intro pins s σ H Q I h;refine wpAny_Call_Name_kw (iB I hg hm ?_ hdb);exact W.callWith_K0 I.kIn M.kp (pP (us:=[]) M F hr hb hd hx I .nil h)
end
section
variable {X:Cx} {CX:CXT} {k:Nat} {f C:Addr} {fd:FuncData} {ps ks:List Str} {sp:Sp} {E:XK} {x m:Str} {p pos apos kpos:Pos} {e o:Expr} {es:List Expr} {kws:List Keyword} {te ta:TE} {t tk:TA} {nm:Option Str}
variable {g:List Value->List Value->List Value} {gV:List V->List V->List V}
end
structure aE(N P:List Str)(sc:Scope):Prop where
 kind:sc.kind=.function
 co:sc.isCoroutine=false
 gen:sc.isGenerator=false
 nd:N.Nodup
 pre:N.take P.length=P
 par:∀x∈P,sc.names.lookup x=some .local\/sc.names.lookup x=some .cell
 nofree:∀y∈sc.names,y.2≠.free
theorem lN{kindOf:Str->Option NameKind}{x:Str}:∀{binds:List (Str×Value)} {m:Str->Option Value},(∀v,(x,v)∉binds)->bindL kindOf binds m x=m x
 | [],_,_=>rfl
 | (n,v)::r,m,h=>by
  unfold bindL;rw [lN fun w hw=>h w (zq6 _ hw)]
  split
  ·have:x≠n:=by rintro rfl;exact h v eD
   simp [this]
  ·rfl
theorem lK{kindOf:Str->Option NameKind}{x:Str}:∀{binds:List (Str×Value)} {m:Str->Option Value},(∀v,(x,v)∉binds)->bindC kindOf binds m x=m x
 | [],_,_=>rfl
 | (n,v)::r,m,h=>by
  unfold bindC;rw [lK fun w hw=>h w (zq6 _ hw)]
  split
  ·rfl
  ·have:x≠n:=by rintro rfl;exact h v eD
   simp [this]
theorem lM{kindOf:Str->Option NameKind}{x:Str}{v:Value}:∀{P:List Str} {vs:List Value} {i:Nat} {m:Str->Option Value},P.Nodup->P[i]?=some x->vs[i]?=some v->kindOf x=some .local->
  bindL kindOf (P.zip vs) m x=some v
 | [],_,_,_,_,h,_,_=>by simp at h
 |_::_,[],_,_,_,_,h,_=>by simp at h
 |p::P,w::vs,0,m,nd,h1,h2,hk=>by
  simp at h1 h2;subst h1;subst h2;show bindL kindOf ((p,w)::P.zip vs) m p=_;unfold bindL;rw [lN fun v hv=>(zq25.mp nd).1 (zZ hv).1,if_pos hk];simp
 |p::P,w::vs,i+1,m,nd,h1,h2,hk=>by show bindL kindOf ((p,w)::P.zip vs) m x=_;unfold bindL;exact lM (i:=i) (zq25.mp nd).2 (by simpa using h1) (by simpa using h2) hk
theorem lJ{kindOf:Str->Option NameKind}{x:Str}{v:Value}:∀{P:List Str} {vs:List Value} {i:Nat} {m:Str->Option Value},P.Nodup->P[i]?=some x->vs[i]?=some v->kindOf x≠some .local->
  bindC kindOf (P.zip vs) m x=some v
 | [],_,_,_,_,h,_,_=>by simp at h
 |_::_,[],_,_,_,_,h,_=>by simp at h
 |p::P,w::vs,0,m,nd,h1,h2,hk=>by
  simp at h1 h2;subst h1;subst h2;show bindC kindOf ((p,w)::P.zip vs) m p=_;unfold bindC;rw [lK fun v hv=>(zq25.mp nd).1 (zZ hv).1,if_neg hk];simp
 |p::P,w::vs,i+1,m,nd,h1,h2,hk=>by show bindC kindOf ((p,w)::P.zip vs) m x=_;unfold bindC;exact lJ (i:=i) (zq25.mp nd).2 (by simpa using h1) (by simpa using h2) hk
def aP(N:List Str)(vs:List V):St:=vs.map some++List.replicate (N.length-vs.length) none
def qU(CX:CXT)(P:Program)(w:World)(K:W.Frag)(mg:Str->Option Value)(base:Heap)(N:List Str)(qual:Str)(scope:Scope)(f:Addr)(cd:Value)(A:Around)(outer:List Env)(s:Shared)(H:Hp)(E:XK):Cx where
 prog:=P
 w:=w
 K:=K
 mg:=mg
 base:=base
 A:=A.deeper (envOfC qual scope s.heap.objs.size f cd)
 N:=N
 s₀:=s
 H₀:=H
 env:=envOfC qual scope s.heap.objs.size f cd
 outer:=outer
 stack:=envOfC qual scope s.heap.objs.size f cd::outer
 ex:=[]
 calm:=true
 fn:=fun _=>true
 pn:=[]
 xe:=fun e s'=>wpAny (model P w) (A.deeper (envOfC qual scope s.heap.objs.size f cd)) (leaving (envOfC qual scope s.heap.objs.size f cd) e) (fun _ s''=>CX outer H s E e s'') (fun e' s''=>CX outer H s E e' s'') s'
theorem oB{sc:Scope}{n:Nat}{x:Str}(h:sc.names.lookup x=some .cell):∃c,(cellsFrom n sc.names []).lookup x=some c:=by have q:=W.cellsFrom_some sc.names n [] (.inl h);exact zq142.mp q
theorem vn{CX:CXT}{P:Program}{w:World}{K:W.Frag}{mg:Str->Option Value}{base:Heap}{N ps:List Str}{qual:Str}{scope:Scope}{f:Addr}{cd:Value}{A:Around}{outer:List Env}{s s1:Shared}{H:Hp}{E:XK}{us:List Value}{vs:List V}
  (S:aE N ps scope) (hd:A.handled=none) (e0:Env0 P w K mg base A outer s H) (hl:vs.length=ps.length) (r:Vals vs us)
  (x:InCallC s s.heap.objs.size (bindL (envOfC qual scope s.heap.objs.size f cd).kindOf (ps.zip us) fun _=>none) (cellsFrom (s.heap.objs.size+1) scope.names []) (bindC (envOfC qual scope s.heap.objs.size f cd).kindOf (ps.zip us) fun _=>none) s1) :
  Inv (qU CX P w K mg base N qual scope f cd A outer s H E) [] (aP N vs) H s1:=by
 have hpl:ps.length<=N.length:=by have:=congrArg List.length S.pre;rw [dS] at this;omega
 obtain ⟨h1,tk,rfl,hk⟩:=x.done;have noA:∀b:Addr,b∉(qU CX P w K mg base N qual scope f cd A outer s H E).ex:=fun b z=>absurd (show b∈([]:List Addr) from z) Jz;refine ⟨⟨e0.mod,S.kind,rfl,rfl,zq0 _,fun y z c h1 h2=>?_,fun y hy=>?_,fun y c _ h=>?_,fun _=>hd,Around.frames_deeper e0.frames,.inr ⟨rfl,rfl⟩,fun b z=>absurd z (noA b),e0.bs,e0.bsz,fun b _ _=>noA b,fun b z=>absurd z (noA b),e0.funs,e0.frf⟩,
  rfl,e0.bare,Un.kept hk,zn _ x.toInCall.ns fun i y v h1 h2 h3=>?_,fun y c h=>⟨_,x.cell y c h⟩,e0.hok.fresh (zq0 _),fun y c h=>?_,fun p hp=>absurd (show p∈([]:List (Addr×Obj)) from hp) Jz,e0.hok.kept hk,?_⟩
 ·exact name_of_addr x.apart (PySem.mem_of_lookup h1) (PySem.mem_of_lookup h2)
 ·have hy:scope.names.lookup y=some .cell\/scope.names.lookup y=some .free:=hy;rcases hy with hy | hy
  ·exact oB hy
  ·exact absurd rfl (S.nofree _ (PySem.mem_of_lookup hy))
 ·exact nO (x.above y c (PySem.mem_of_lookup h))
 ·have hi:i<vs.length:=by
   unfold aP at h2
   by_cases hi:i<vs.length
   ·exact hi
   ·rw [jh (by simpa using hi)] at h2;rw [A0] at h2
    split at h2<;>cases h2
  have ha:vs[i]?=some v:=by
   unfold aP at h2;rw [jE (by simpa using hi),cn] at h2
   cases e:vs[i]? with
   |none=>rw [e] at h2;cases h2
   |some a=>rw [e] at h2;cases h2;rfl
  obtain ⟨u,hu,rv⟩:=r.get ha;have hp:ps[i]?=some y:=by rw [<- S.pre,List.getElem?_take_of_lt Jy];exact h1
  have ndP:ps.Nodup:=by rw [<- S.pre];exact S.nd.sublist (List.take_sublist _ _)
  refine zn u rv ?_;rcases S.par y (zq9 hp) with k | k
  ·exact .inl ⟨k,lM ndP hp hu k⟩
  ·obtain ⟨c,e⟩:=oB (n:=s.heap.objs.size+1) k;refine .inr ⟨.inl k,zn c e ?_⟩;have q:=x.cell y c e;rw [lJ ndP hp hu (by show scope.names.lookup y≠_;rw [k];decide)] at q;exact q
 ·exact e0.hok.fresh (nO (x.above y c (PySem.mem_of_lookup h)))
 ·unfold aP;show _=N.length;rw [zq4,zq1,A1];omega
theorem GV{CX:CXT}{P:Program}{w:World}{K:W.Frag}{mg:Str->Option Value}{base:Heap}{k:Nat}{f:Addr}{name qual:Str}{params:Arguments}{body:List Stmt}{scope:Scope}{dV kV doc pm cdv ct oc:Value}{an od:Option Addr}
  {osl:Array (Option Value)} {N ps:List Str} {sp:Sp} (lk:K.lookup f=some ⟨oc,od,.func (W.fnOf name qual params body scope dV kV doc pm an cdv ct),osl⟩) (hcd:W.codeIn K cdv qual=true) (S:aE N ps scope)
  (len:∀vs H Q E,sp vs H Q E->vs.length=ps.length)
  (hbody:∀(A:Around)(outer:List Env)(s:Shared)(H:Hp)(vs:List V)(Q:VK)(E:XK),Room k (A.deeper (envOfC qual scope s.heap.objs.size f cdv))->sp vs H Q E->
   ∃t,PSs (qU CX P w K mg base N qual scope f cdv A outer s H E) body t/\t {nx:=fun _ H'=>Q .non H',rt:=Q} (aP N vs) H) :
  FnOk P w K mg base CX (k+1) f (W.fnOf name qual params body scope dV kV doc pm an cdv ct) ps sp:=by
 refine ⟨len,fun A outer s H args us vs Q E hr e0 hb r hsp=>?_⟩;have hl:=len _ _ _ _ hsp;have KX:K.In s.heap:=e0.mod.kin.keeps fun b o e=>(e0.bs b o e).1;have lim:s.heap.NoLimit:=e0.mod.nolimit.keeps fun b o e=>(e0.bs b o e).1;have hkind:∀y∈ps.zip us,scope.names.lookup y.1=some .local\/(scope.names.lookup y.1=some .cell/\((cellsFrom (s.heap.objs.size+1) scope.names []).lookup y.1).isSome=true):=fun ⟨n,v⟩ hy=>by
  rcases S.par n (zZ hy).1 with q | q
  ·exact .inl q
  ·exact .inr ⟨q,W.cellsFrom_some _ _ _ (.inl q)⟩
 refine codeAny_call_function hr.depth (KX _ _ lk) rfl S.co S.gen rfl (W.codeRec_of KX hcd) (hb _ _ _ _ ?_);refine wpAny_newFunctionEnv_cells S.kind hkind fun env he s1 x=>?_;subst he;refine ⟨lim.keeps x.toInCall.keep,codeAny_func ?_⟩;obtain ⟨t,ht,hq⟩:=hbody A outer s H vs Q E (hr.deeper _) hsp;have I:Inv (qU CX P w K mg base N qual scope f cdv A outer s H E) [] (aP N vs) H s1:=vn S hr.hd e0 hl r x;refine wpAny_mono (ht [] s1 (aP N vs) H _ I hq) (fun fl s' hs=>?_) fun e s' hs=>hs;have fin:∀{σ':St} {H':Hp} {v:V} {u:Value},Inv (qU CX P w K mg base N qual scope f cdv A outer s H E) [] σ' H' s'->RelV v u->Q v H'->CE outer P w H s Q u s':=
  fun {σ' H' v u} J rv q=>zBI v H' J.os J.bare J.base J.hok rv q
 cases fl with
 |ret u=>
  obtain ⟨v,σ',H',J,rv,q⟩:=hs;exact fin J rv q
 |next=>
  obtain ⟨σ',H',J,q⟩:=hs;exact fin (v:=V.non) (u:=Value.none) J rfl q
 |brk=>
  obtain ⟨_,_,_,q⟩:=hs;exact False.elim q
 |cont=>obtain ⟨_,_,_,q⟩:=hs;exact False.elim q
end L2
namespace L2
section
variable {X:Cx} {x:Str} {p pos:Pos} {e:Expr} {es:List Expr} {t:TA} {id T:String} {r:List V->Hp->VK->Prop}
def tCB(r:List V->Hp->VK->Prop)(t:TA):TE:=fun σ H Q=>t σ H fun vs H1=>r vs H1 Q
theorem yk(hc:eP X (.builtin id) r)(hg:Gl X x)(hm:X.mg x=none)(hv:bootBuiltins x=some (.builtin id))(ha:PA X (e::es) t)(hn:x≠"__name__":=by decide) (hdb:(x==("__debug__":Str))=false:=by decide)
  (he:starEach (e::es) X.env=(false,eval e X.env)::starEach es X.env:=by rfl) (hpl:(backTo pos (starEach es X.env)).any (·.1)=false:=by rfl):PE X (.Call (.Name x p) (e::es) [] pos) (tCB r t):=by
 intro pins s σ H Q I h;refine wpAny_Call_Name_kw (dZ I hg hm hv ?_ hn hdb);exact PyProof.Rows.callWith_builtin1 (thn (ha pos pins s σ H _ I h) fun us s1 ⟨vs,H1,I1,r1,q1⟩=>hc pins s1 σ H1 vs us Q I1 r1 q1) he hpl
theorem vP(hc:eP X (.type T) r)(hg:Gl X x)(hm:X.mg x=none)(hv:bootBuiltins x=some (.type T))(ha:PA X (e::es) t)(hn:x≠"__name__":=by decide) (hdb:(x==("__debug__":Str))=false:=by decide)
  (he:starEach (e::es) X.env=(false,eval e X.env)::starEach es X.env:=by rfl) (hpl:(backTo pos (starEach es X.env)).any (·.1)=false:=by rfl):PE X (.Call (.Name x p) (e::es) [] pos) (tCB r t):=by
 intro pins s σ H Q I h;refine wpAny_Call_Name_kw (dZ I hg hm hv ?_ hn hdb);exact PyProof.Rows.callWith_type1 (thn (ha pos pins s σ H _ I h) fun us s1 ⟨vs,H1,I1,r1,q1⟩=>hc pins s1 σ H1 vs us Q I1 r1 q1) he hpl
end
end L2
end
namespace HT
open PySem PyProof.Rows
section
open PySem.SeqAt
open PySem.AutoSeq1 (wpAny_loadPart')
open PySem.MeetsSeq PySem.MeetsSeq2 PySem.MeetsSeq3
end
section
variable {prog:Program} {w:World} {A:Around} {E:Value->Shared->Prop} {s:Shared}
def sIx(n d:Nat):Option Int->Nat
 |none=>d
 |some v=>if v<0 then (v+(n:Int)).toNat else min v.toNat n
theorem pQ(n d:Nat):sIx n d none=d:=rfl
theorem nA(n d k:Nat):sIx n d (some (k:Int))=min k n:=by show (if (k:Int)<0 then ((k:Int)+(n:Int)).toNat else min (k:Int).toNat n)=min k n;rw [if_neg Jy,jF]
theorem FN(n d:Nat)(hd:d<=n)(o:Option Int):sIx n d o<=n:=by
 cases o with
 |none=>exact hd
 |some v=>
  show (if v<0 then (v+(n:Int)).toNat else min v.toNat n)<=n
  by_cases hv:v<0
  ·rw [if_pos hv];omega
  ·rw [if_neg hv];exact Nat.min_le_right _ _
theorem sT(v:Int)(n d:Nat):(if v<0 then max (v+(n:Int)) 0 else min v (n:Int))=((sIx n d (some v):Nat):Int):=by
 show (if v<0 then max (v+(n:Int)) 0 else min v (n:Int))=(((if v<0 then (v+(n:Int)).toNat else min v.toNat n):Nat):Int)
 by_cases hv:v<0
 ·simp only [if_pos hv];omega
 ·simp only [if_neg hv];omega
theorem qO(lo hi:Option Int)(n:Nat):Builtin.Slice.sliceAdjust lo hi 1 (n:Int)=(((sIx n 0 lo:Nat):Int),((sIx n n hi:Nat):Int)):=by
 have h1:¬((1:Int)<0):=by omega
 unfold Builtin.Slice.sliceAdjust;simp only [h1,if_false];refine Prod.ext ?_ ?_
 ·cases lo with
  |none=>rfl
  |some v=>exact sT v n 0
 ·cases hi with
  |none=>rfl
  |some v=>exact sT v n n
theorem rK(i j:Nat):Builtin.Slice.slicePlaces (i:Int) (j:Int) 1=j-i:=by
 unfold Builtin.Slice.slicePlaces;have h1:(1:Int)>0:=by omega
 simp only [h1,if_true,Int.ediv_one]
 split<;>omega
theorem kE{v:Value}{o:Option Int}{Q:Option Int->Shared->Prop}(p:IsPart v o)(h:Q o s):wpAny (model prog w) A (Builtin.Slice.slicePartIndex v) Q E s:=by
 cases p with
 |none=>exact slicePart_none h
 |int i t=>exact slicePart_int h
theorem jc{sl:Addr}{vl vu:Value}{lo hi:Option Int}{n:Nat}{Q:Int×Int×Nat->Shared->Prop}(hs:s.heap.IsSliceOf sl vl vu .none)(pl:IsPart vl lo)(pu:IsPart vu hi)
  (h:Q (((sIx n 0 lo:Nat):Int),1,sIx n n hi-sIx n 0 lo) s):wpAny (model prog w) A (Builtin.Slice.sliceApplied (.ref sl) (pure (n:Int))) Q E s:=by
 obtain ⟨os,hos,hcs,hds⟩:=id hs;unfold Builtin.Slice.sliceApplied Builtin.Slice.sliceFields;refine wpAny_bind (wpAny_bind (wpAny_field hos hds (x:=vl) rfl (wpAny_bind (wpAny_field hos hds (x:=vu) rfl (wpAny_bind (wpAny_field hos hds (x:=.none) rfl (wpAny_pure ?_)))))));refine wpAny_bind (slicePart_none ?_);show wpAny _ _ (if ((1:Int)==0)=true then _ else _) _ _ s;rw [if_neg Jx];refine wpAny_bind (kE pl (wpAny_bind (kE pu (wpAny_bind (wpAny_pure ?_)))));show wpAny _ _ (match Builtin.Slice.sliceAdjust lo hi 1 (n:Int) with | (lo,hi)=>pure (lo,(1:Int),Builtin.Slice.slicePlaces lo hi 1)) _ _ s;rw [qO lo hi n];show wpAny _ _ (pure (((sIx n 0 lo:Nat):Int),(1:Int),Builtin.Slice.slicePlaces ((sIx n 0 lo:Nat):Int) ((sIx n n hi:Nat):Int) 1)) _ _ s;rw [rK];exact wpAny_pure h
theorem yw(xs:Array Value)(i k:Nat):((List.range k).filterMap fun (m:Nat)=>xs[((i:Int)+(m:Int) * 1).toNat]?).toArray=((xs.toList.drop i).take k).toArray:=by
 have e:(fun (m:Nat)=>xs[((i:Int)+(m:Int) * 1).toNat]?)=fun m=>xs[i+m]?:=by
  funext m
  have:((i:Int)+(m:Int) * 1).toNat=i+m:=by omega
  rw [this]
 rw [e];have:=pick_run xs i k;rw [List.filterMap_map] at this;have e2:((fun x=>xs[x]?) ∘ fun x=>i+x)=fun m=>xs[i+m]?:=rfl;rw [e2] at this;rw [this]
theorem iA{t sl:Addr}{items:Array Value}{vl vu:Value}{lo hi:Option Int}{Q:Value->Shared->Prop}(ht:IsTup s.heap t items)(hs:s.heap.IsSliceOf sl vl vu .none)(pl:IsPart vl lo)(pu:IsPart vu hi)
  (hw:¬(sIx items.size 0 lo=0/\sIx items.size items.size hi=items.size))
  (h:Q (.ref s.heap.objs.size) {s with heap:=s.heap.push {cls:=.type "tuple",data:=.seq ((items.toList.drop (sIx items.size 0 lo)).take (sIx items.size items.size hi-sIx items.size 0 lo)).toArray}})
  (hsz:items.size<=sizeLine):wpAny (model prog w) A (getItem (.ref t) (.ref sl)) Q E s:=by
 have htake:sizeOk (.seq ((items.toList.drop (sIx items.size 0 lo)).take (sIx items.size items.size hi-sIx items.size 0 lo)).toArray):=by show ((items.toList.drop (sIx items.size 0 lo)).take (sIx items.size items.size hi-sIx items.size 0 lo)).toArray.size<=sizeLine;rw [fI,dS,Ax,Array.length_toList];omega
 have hj:sIx items.size items.size hi<=items.size:=FN _ _ (zq0 _) hi;obtain ⟨os,hos,hcs,hds⟩:=id hs;have hTs:s.TypeIs (.ref sl) "slice":=zn os hos hcs
 unfold getItem
 try with_reducible refine wpAny_holding ?_
 first | refine wpAny_bind (wpAny_pure ?_) | skip
 refine wpAny_bind (wpAny_sequenceKey ht.typeIs Jx ?_);refine wpAny_bind (wpAny_callSpecial?_slot (name:=Str.ofString "__getitem__") ht.typeIs PyProof.Rows.slot_tuple_getitem
  (wpAny_call_entry PyProof.Rows.slot_tuple_getitem ht.typeIs entry_tuple_getitem ?_ (args_tuple_getitem _ _)))
 show wpAny _ _ (Builtin.Tuple.tupleItemsOf (.ref t) >>= _) _ _ s;refine wpAny_bind (tupleItemsOf_ ht ?_);refine wpAny_bind (wpAny_typeOf hTs ?_);rw [if_pos Jx];refine wpAny_bind (jc hs pl pu ?_);have hno:¬((((sIx items.size 0 lo:Nat):Int)==0&&(1:Int)==1&&(sIx items.size items.size hi-sIx items.size 0 lo)==items.size)=true):=by intro q;rw [dB,dB] at q;have q1:((sIx items.size 0 lo:Nat):Int)=0:=eq_of_beq q.1.1;have q2:sIx items.size items.size hi-sIx items.size 0 lo=items.size:=eq_of_beq q.2;exact hw ⟨Jy,Jy⟩
 show wpAny _ _ (if (((sIx items.size 0 lo:Nat):Int)==0&&(1:Int)==1&&(sIx items.size items.size hi-sIx items.size 0 lo)==items.size)=true then _ else _) _ _ s;rw [if_neg hno,yw]
 first
  |exact wpAny_bind (m:=Builtin.Tuple.tupleExact _) (wpAny_newObj_type (wpAny_pure ⟨_,rfl,wpAny_pure h⟩) htake)
  |exact wpAny_bind (m:=Builtin.Tuple.tupleExact _) (wpAny_newObj_type (wpAny_bind (wpAny_pure (wpAny_pure ⟨_,rfl,wpAny_pure h⟩))) htake)
  |exact wpAny_bind (wpAny_bind (m:=Builtin.Tuple.tupleExact _) (wpAny_newObj_type (wpAny_pure (wpAny_pure ⟨_,rfl,wpAny_pure h⟩)) htake))
  |exact wpAny_bind (wpAny_bind (m:=Builtin.Tuple.tupleExact _) (wpAny_newObj_type (wpAny_pure ⟨_,rfl,wpAny_pure h⟩) htake))
end
end HT
section
open PySem PySem.Spec PyProof.Rows
namespace L2
abbrev TO:=St->Hp->(Option Int->Hp->Prop)->Prop
def PO(X:Cx)(e:Option Expr)(t:TO):Prop:=
 ∀(pins:List (Addr×Obj)) (s:Shared) (σ:St) (H:Hp) (Q:Option Int->Hp->Prop),Inv X pins σ H s->t σ H Q->
  wpAny (model X.prog X.w) X.A (evalPart e X.env) (fun u s'=>∃o H',Inv X pins σ H' s'/\IsPart u o/\Q o H') X.xe s
def uC:TO:=fun _ H Q=>Q none H
def DP(t:TE):TO:=fun σ H Q=>t σ H fun x H1=>∃i,x=.int i/\Q (some i) H1
section
variable {X:Cx} {e:Expr} {te:TE} {lo hi:Option Expr} {tl th:TO} {pos p2:Pos}
def SlR(X:Cx)(r:V->Option Int->Option Int->Hp->VK->Prop):Prop:=
 ∀(pins:List (Addr×Obj)) (s:Shared) (σ:St) (H:Hp) (x:V) (v vl vu:Value) (lo hi:Option Int) (sl:Addr) (Q:VK),Inv X pins σ H s->RelV x v->s.heap.IsSliceOf sl vl vu .none->IsPart vl lo->IsPart vu hi->r x lo hi H Q->
  ∃T id,typeLookup (.type T) "__getitem__"=pure (some (.builtin id))/\s.TypeIs v T/\wpAny (model X.prog X.w) X.A (getItem v (.ref sl)) (EP X pins σ Q) X.xe s
def tSl(r:V->Option Int->Option Int->Hp->VK->Prop)(te:TE)(tl th:TO):TE:=fun σ H Q=>te σ H fun x H1=>tl σ H1 fun l H2=>th σ H2 fun u H3=>r x l u H3 Q
def gM(xs:List V)(lo hi:Option Int):List V:=(xs.drop (HT.sIx xs.length 0 lo)).take (HT.sIx xs.length xs.length hi-HT.sIx xs.length 0 lo)
theorem jj(xs:List V)(lo hi:Option Int):(gM xs lo hi).length<=xs.length:=by unfold gM;rw [dS,Ax];omega
def Hy(K:W.Frag):V->Option Int->Option Int->Hp->VK->Prop:=fun x lo hi H Q=>∃a xs,x=.ref a/\SqT K H a xs/\
 ¬(HT.sIx xs.length 0 lo=0/\HT.sIx xs.length xs.length hi=xs.length)/\∀p,H p=none->Q (.ref p) (upd H p (.tup (gM xs lo hi)))
theorem zm:SlR X (Hy X.K):=by
 intro pins s σ H x v vl vu lo hi sl Q I rx hs pl pu h;obtain ⟨a,xs,rfl,hx,hw,q⟩:=h
 cases rx
 obtain ⟨its,r,ht,hz⟩:=I.tuple hx;have hlen:its.toArray.size=xs.length:=by rw [fI];exact r.length.symm
 refine zAA ("tuple") _ PyProof.Rows.slot_tuple_getitem.lookup ht.typeIs ?_;refine HT.iA ht hs pl pu (by rw [hlen];exact hw) ?_ (by rw [hlen];exact hz);rw [hlen];refine zAA (.ref s.heap.objs.size) _ (I.laid (t':=s.toks) (o:=.tup (gM xs lo hi)) (fun b ob q=>bX _ q) (zq0 _) ?_) rfl (q _ (I.hok.fresh (zq0 _)));exact ⟨cL (jj xs lo hi) hz,zn _ ((r.drop (HT.sIx xs.length 0 lo)).take (HT.sIx xs.length xs.length hi-HT.sIx xs.length 0 lo)) (IsTup.new _ _)⟩
end
end L2
namespace L2
def ixN(n:Nat)(i:Int):Option Nat:=if 0<=i then (if i<n then some i.toNat else none) else if -(n:Int)<=i then some (i+n).toNat else none
def atI{α:Type}(xs:List α)(i:Int):Option α:=(ixN xs.length i).bind fun j=>xs[j]?
theorem tE{n:Nat}{i:Int}{j:Nat}(h:ixN n i=some j):seqIndex? i n=some j/\j<n/\-(n:Int)<=i/\i<n:=by
 unfold ixN at h
 by_cases h0:0<=i
 ·rw [if_pos h0] at h
  by_cases h1:i<n
  ·rw [if_pos h1] at h;have e:i.toNat=j:=Option.some.inj h;exact zAG (by rw [seqIndex_of h0 h1,e]) Jy Jy h1
  ·rw [if_neg h1] at h;cases h
 ·rw [if_neg h0] at h
  by_cases h1:-(n:Int)<=i
  ·rw [if_pos h1] at h;have e:(i+n).toNat=j:=Option.some.inj h;exact zAG (by rw [seqIndex_neg Jy h1,e]) Jy h1 Jy
  ·rw [if_neg h1] at h;cases h
theorem mI{α:Type}{xs:List α}{i:Int}{v:α}(h:atI xs i=some v):∃j,seqIndex? i xs.length=some j/\xs[j]?=some v/\j<xs.length/\-(xs.length:Int)<=i/\i<xs.length:=by
 unfold atI at h
 cases e:ixN xs.length i with
 |none=>rw [e] at h;cases h
 |some j=>rw [e] at h;obtain ⟨h1,h2,h3,h4⟩:=tE e;exact zAZ j h1 h h2 h3 h4
theorem cf{α:Type}{xs:List α}{j:Nat}{v:α}(h:xs[j]?=some v):atI xs (j:Int)=some v:=by
 have hj:j<xs.length:=(zq10.mp h).1;have e:ixN xs.length (j:Int)=some j:=by unfold ixN;rw [if_pos Jy,if_pos Jy];simp
 unfold atI;rw [e];exact h
theorem fN{α:Type}(xs:List α)(v:α):atI (xs++[v]) (-1)=some v:=by
 have hl:(xs++[v]).length=xs.length+1:=by simp
 have e:ixN (xs++[v]).length (-1)=some xs.length:=by unfold ixN;rw [hl,if_neg Jx,if_pos Jy];congr 1;omega
 unfold atI;rw [e];show (xs++[v])[xs.length]?=some v;simp
def AJ(b:Expr):Prop:=∀o i,subscripted b false o i=operate [o,i] (getItem o i)
def IxR(X:Cx)(r:R2):Prop:=
 ∀(value slice:Expr)(pins:List (Addr×Obj)) (s:Shared) (σ:St) (H:Hp) (x y:V) (v u:Value) (Q:VK),Inv X pins σ H s->RelV x v->RelV y u->r x y H Q->
  subscripted slice false v u=operate [v,u] (getItem v u)->wpAny (model X.prog X.w) X.A (subscriptTail value slice v u) (EP X pins σ Q) X.xe s
def MtR(X:Cx)(id:String)(r:V->List V->Hp->VK->Prop):Prop:=
 ∀(pins:List (Addr×Obj)) (s:Shared) (σ:St) (H:Hp) (x:V) (xs:List V) (v:Value) (us:List Value) (Q:VK),Inv X pins σ H s->RelV x v->Vals xs us->r x xs H Q->
  wpAny (model X.prog X.w) X.A (call (.builtin id) (v::us)) (EP X pins σ Q) X.xe s
section
variable {X:Cx} {a b:Expr} {ta tb:TE} {pos:Pos}
def EW(K:W.Frag):R2:=fun x y H Q=>∃p xs i v,x=.ref p/\y=.int i/\SqL K H p xs/\atI xs i=some v/\Q v H
def BI(K:W.Frag):R2:=fun x y H Q=>∃p xs i v,x=.ref p/\y=.int i/\SqT K H p xs/\atI xs i=some v/\Q v H
def Hs:R2:=fun x y H Q=>∃z i c,x=.str z/\y=.int i/\z.length<=sizeLine/\atI z.cps.toList i=some c/\Q (.str ⟨#[c]⟩) H
theorem b7:IxR X (EW X.K):=by
 intro value slice pins s σ H x y v u Q I rx ry h hs;obtain ⟨p,xs,i,z,rfl,rfl,hq,he,q⟩:=h
 cases rx
 obtain ⟨t,rfl⟩:=ry;obtain ⟨its,r,pl,hz⟩:=I.list hq;obtain ⟨j,h1,h2,h3,h4,h5⟩:=mI he;obtain ⟨w,ew,rw'⟩:=r.get h2;have hl:=r.length;have hn:=kf;have fin:EP X pins σ Q w s:=zAA z H I rw' q
 by_cases h0:0<=i
 ·have hj:i.toNat=j:=by rw [seqIndex_of h0 h5] at h1;exact Option.some.inj h1
  exact item_listR pl.isList h0 Jy (by rw [hj];simpa using ew) fin hs
 ·have hj:(i+(its.toArray.size:Int)).toNat=j:=by rw [seqIndex_neg Jy h4] at h1;rw [fI,<- hl];exact Option.some.inj h1
  exact subscriptTail_builtinR (x:=w) pl.isList.typeIs slot_list_getitem.lookup
   (wpAny_getItem_list_neg (Q:=fun r s'=>r=w/\EP X pins σ Q r s') pl.isList Jy (by rw [fI]<;>omega) Jy (by rw [hj];simpa using ew) ⟨rfl,fin⟩) hs
theorem az:IxR X (BI X.K):=by
 intro value slice pins s σ H x y v u Q I rx ry h hs;obtain ⟨p,xs,i,z,rfl,rfl,hq,he,q⟩:=h
 cases rx
 obtain ⟨t,rfl⟩:=ry;obtain ⟨its,r,pl,hz⟩:=I.tuple hq;obtain ⟨j,h1,h2,h3,h4,h5⟩:=mI he;obtain ⟨w,ew,rw'⟩:=r.get h2;have hl:=r.length;have hn:=kf;have fin:EP X pins σ Q w s:=zAA z H I rw' q
 exact subscriptTail_builtinR (x:=w) pl.typeIs slot_tuple_getitem.lookup
  (getItem_tuple (j:=j) (Q:=fun r s'=>r=w/\EP X pins σ Q r s') pl Jy Jy (by rw [fI,<- hl];exact h1) (by simpa using ew) ⟨rfl,fin⟩) hs
theorem En:IxR X Hs:=by
 intro value slice pins s σ H x y v u Q I rx ry h hs;obtain ⟨z,i,c,rfl,rfl,hz,he,q⟩:=h;obtain ⟨t,rfl⟩:=rx;obtain ⟨t',rfl⟩:=ry;obtain ⟨j,h1,h2,h3,h4,h5⟩:=mI he;have hl:z.cps.toList.length=z.length:=by simp [Str.length]
 rw [hl] at h1 h4 h5;have hn:=kf;exact tail_any (typeIs_str s z t) slot_str_getitem.lookup (getItem_str (c:=c) (by have e1:decide (i < -(2 ^ 63:Int))=false:=decide_eq_false Jy;have e2:decide (i ≥ 2 ^ 63)=false:=decide_eq_false Jy;rw [e1,e2,Bool.or_false]) (by rw [h1];simpa using h2) (zAA (.str ⟨#[c]⟩) H (I.tok _) ⟨_,rfl⟩ q)) hs
theorem rm(its:List Value)(n j:Nat)(u:Value):Obj.mapSeq (·.setIfInBounds j u) {cls:=.type "list",data:=.seq its.toArray n}={cls:=.type "list",data:=.seq (its.set j u).toArray n}:=by simp [Obj.mapSeq]
theorem Inv.lst{pins:List (Addr×Obj)}{σ:St}{H:Hp}{s:Shared}{p:Addr}{xs:List V}(I:Inv X pins σ H s)(h:H p=some (.lst xs)):
  ∃(its:List Value)(n:Nat),Vals xs its/\s.heap.get? p=some {cls:=.type "list",data:=.seq its.toArray n}/\xs.length<=sizeLine:=by
 obtain ⟨z,its,n,r,e⟩:=I.hok p _ h;exact zAA its n r e z
theorem Inv.lstUpd{pins:List (Addr×Obj)}{σ:St}{H:Hp}{s:Shared}{p:Addr}{xs ys:List V}{its its':List Value}{n n':Nat}{f:Obj->Obj}(I:Inv X pins σ H s)(h:H p=some (.lst xs))
  (ho:s.heap.get? p=some {cls:=.type "list",data:=.seq its.toArray n}) (hf:f {cls:=.type "list",data:=.seq its.toArray n}={cls:=.type "list",data:=.seq its'.toArray n'}) (r:Vals ys its') (hz:ys.length<=sizeLine) (t:Nat) :
  Inv X pins σ (upd H p (.lst ys)) {s with heap:=s.heap.update p f,toks:=t}:=by
 have e:(s.heap.update p f).get? p=some {cls:=.type "list",data:=.seq its'.toArray n'}:=by rw [uI f ho (by rw [hf]<;>rfl),hf]
 refine I.write (x:=p) (e:=p) (by rw [h];trivial) (.inl rfl) (fun b u hb q=>(A2 _ _ (Ne.symm hb)).trans q) ⟨_,e⟩ ?_;exact ⟨hz,zAD its' n' r e⟩
def Hv:V->V->V->Hp->(Hp->Prop)->Prop:=fun o i v H Q=>∃p xs k j,o=.ref p/\i=.int k/\H p=some (.lst xs)/\ixN xs.length k=some j/\Q (upd H p (.lst (xs.set j v)))
theorem kD:E3 X Hv:=by
 intro pins s σ H o i v ov iv u Q I ro ri rv h;obtain ⟨p,xs,k,j,rfl,rfl,hp,hj,q⟩:=h
 cases ro
 obtain ⟨t,rfl⟩:=ri;obtain ⟨its,n,r,ho,hz⟩:=I.lst hp;obtain ⟨h1,h2,h3,h4⟩:=tE hj;have hl:=r.length;have hn:=kf;have I':Inv X pins σ (upd H p (.lst (xs.set j v))) {s with heap:=s.heap.update p (Obj.mapSeq (·.setIfInBounds j u))}:=
  I.lstUpd hp ho (rm its n j u) (r.set rv j) (by rw [sD];exact hz) s.toks
 by_cases h0:0<=k
 ·have hk:k.toNat=j:=by rw [seqIndex_of h0 h4] at h1;exact Option.some.inj h1
  exact W.ki_setAt ho h0 Jy (by rw [fI,<- hl];exact h4) (by rw [hk];exact zn _ I' q)
 ·have hk:(k+(its.toArray.size:Int)).toNat=j:=by rw [seqIndex_neg Jy h3] at h1;rw [fI,<- hl];exact Option.some.inj h1
  exact W.ki_setBack ho Jy (by rw [fI,<- hl];exact h3) Jy (by rw [hk];exact zn _ I' q)
theorem nB(lo hi:Option Int)(n:Nat):(sliceBounds lo hi none n).1=((HT.sIx n 0 lo:Nat):Int)/\(sliceBounds lo hi none n).2.1=((HT.sIx n n hi:Nat):Int)/\(sliceBounds lo hi none n).2.2=1:=by
 refine zAB ?_ ?_ rfl
 ·cases lo with
  |none=>simp [sliceBounds,HT.sIx]
  |some i=>
   simp only [sliceBounds,HT.sIx,Option.getD_none,show (1:Int)>0 by decide,if_true]
   by_cases h:i<0
   ·simp only [h,if_true]<;>omega
   ·simp only [h,if_false]<;>omega
 ·cases hi with
  |none=>simp [sliceBounds,HT.sIx]
  |some i=>
   simp only [sliceBounds,HT.sIx,Option.getD_none,show (1:Int)>0 by decide,if_true]
   by_cases h:i<0
   ·simp only [h,if_true]<;>omega
   ·simp only [h,if_false]<;>omega
theorem lh(its:List Value)(lo hi:Option Int):slicePick its.toArray lo hi none=((its.drop (HT.sIx its.length 0 lo)).take (HT.sIx its.length its.length hi-HT.sIx its.length 0 lo)).toArray:=by obtain ⟨h1,h2,h3⟩:=nB lo hi its.toArray.size;unfold slicePick;rw [h1,h2,h3];simp only [sliceRange_one,pick_run,List.size_toArray]<;>rfl
def Hx(K:W.Frag):V->Option Int->Option Int->Hp->VK->Prop:=fun x lo hi H Q=>∃a xs,x=.ref a/\SqL K H a xs/\∀p,H p=none->Q (.ref p) (upd H p (.lst (gM xs lo hi)))
theorem iO:SlR X (Hx X.K):=by
 intro pins s σ H x v vl vu lo hi sl Q I rx hs pl pu h;obtain ⟨a,xs,rfl,hx,q⟩:=h
 cases rx
 obtain ⟨its,r,ht,hz⟩:=I.list hx;have hlen:=r.length;refine zAA ("list") _ slot_list_getitem.lookup ht.isList.typeIs ?_;refine wpAny_getItem_list_slice ht.isList hs pl pu .none Jz ?_ (by rw [List.size_toArray]<;>omega);rw [lh,<- hlen];refine zAA (.ref s.heap.objs.size) _ (I.laid (t':=s.toks) (o:=.lst (gM xs lo hi)) (fun b ob q=>bX _ q) (zq0 _) ?_) rfl (q _ (I.hok.fresh (zq0 _)));exact ⟨cL (jj xs lo hi) hz,zAD _ 0 ((r.drop (HT.sIx xs.length 0 lo)).take (HT.sIx xs.length xs.length hi-HT.sIx xs.length 0 lo)) (dA _ rfl)⟩
def bF:V->Bool
 | .non=>true
 | .bl _=>true
 | .int _=>true
 | .str _=>true
 |_=>false
def eqV:V->V->Bool
 | .non,.non=>true
 | .bl a,.bl b=>a==b
 | .bl a,.int b=>(if a then 1 else 0)==b
 | .int a,.bl b=>a==(if b then 1 else 0)
 | .int a,.int b=>a==b
 | .str a,.str b=>a==b
 |_,_=>false
theorem mN{A:Around}{s:Shared}{y x:V}{u v:Value}(ry:RelV y u)(rx:RelV x v)(fy:bF y=true)(fx:bF x=true):SeqAt.EqAt A s u v (eqV y x):=by
 cases y with
 |non=>
  cases ry
  cases x with
  |non=>cases rx;exact SeqAt.EqAt.same _
  |bl b=>cases rx;exact SeqAt.EqAt.none_bool b
  |int b=>obtain ⟨t,rfl⟩:=rx;exact SeqAt.EqAt.none_int b t
  |str b=>obtain ⟨t,rfl⟩:=rx;exact SeqAt.EqAt.none_str b t
  |_=>exact absurd (show false=true from fx) zq3
 |bl a=>
  cases ry
  cases x with
  |non=>cases rx;exact SeqAt.EqAt.bool_none a
  |bl b=>cases rx;exact SeqAt.EqAt.bool_bool a b
  |int b=>obtain ⟨t,rfl⟩:=rx;exact SeqAt.EqAt.bool_int a b t
  |str b=>obtain ⟨t,rfl⟩:=rx;exact SeqAt.EqAt.bool_str a b t
  |_=>exact absurd (show false=true from fx) zq3
 |int a=>
  obtain ⟨t',rfl⟩:=ry
  cases x with
  |non=>cases rx;exact SeqAt.EqAt.int_none a t'
  |bl b=>cases rx;exact SeqAt.EqAt.int_bool a t' b
  |int b=>obtain ⟨t,rfl⟩:=rx;exact SeqAt.EqAt.int_int a t' b t
  |str b=>obtain ⟨t,rfl⟩:=rx;exact SeqAt.EqAt.int_str a t' b t
  |_=>exact absurd (show false=true from fx) zq3
 |str a=>
  obtain ⟨t',rfl⟩:=ry
  cases x with
  |non=>cases rx;exact SeqAt.EqAt.str_none a t'
  |bl b=>cases rx;exact SeqAt.EqAt.str_bool a t' b
  |int b=>obtain ⟨t,rfl⟩:=rx;exact SeqAt.EqAt.str_int a t' b t
  |str b=>obtain ⟨t,rfl⟩:=rx;exact SeqAt.EqAt.str_str a t' b t
  |_=>exact absurd (show false=true from fx) zq3
 |_=>exact absurd (show false=true from fy) zq3
def eqU(x:V)(u:Value):Bool:=match u with
 | .none=>eqV .non x
 | .bool b=>eqV (.bl b) x
 | .int i _=>eqV (.int i) x
 | .str z _=>eqV (.str z) x
 |_=>false
theorem qY{x y:V}{u:Value}(r:RelV y u)(f:bF y=true):eqU x u=eqV y x:=by
 cases y with
 |non=>cases r;rfl
 |bl b=>cases r;rfl
 |int i=>obtain ⟨t,rfl⟩:=r;rfl
 |str z=>obtain ⟨t,rfl⟩:=r;rfl
 |_=>exact absurd (show false=true from f) zq3
theorem ik{x:V}:∀{xs:List V} {us:List Value},Vals xs us->xs.all bF=true->us.any (eqU x)=xs.any fun y=>eqV y x
 |_,_,.nil,_=>rfl
 |y::xs,u::us,.cons r t,f=>by rw [sE,dB] at f;rw [qF,qF,qY r f.1,ik t f.2]
theorem eX{A:Around}{s:Shared}{x:V}{v:Value}(rx:RelV x v)(fx:bF x=true):∀{xs:List V} {us:List Value},Vals xs us->xs.all bF=true->∀u∈us,SeqAt.EqAt A s u v (eqU x u)
 |_,_,.nil,_=>fun u hu=>by cases hu
 |y::xs,u::us,.cons r t,f=>fun u' hu=>by
  rw [sE,dB] at f;rcases zq5.mp hu with rfl | hu
  ·rw [qY r f.1];exact mN r rx f.1 fx
  ·exact eX rx fx t f.2 u' hu
def inV(x:V)(xs:List V):Bool:=xs.any fun y=>eqV y x
def rIn(K:W.Frag)(neg:Bool):R2:=fun x y H Q=>∃p xs,y=.ref p/\(SqL K H p xs\/SqT K H p xs)/\bF x=true/\xs.all bF=true/\Q (.bl (if neg then !inV x xs else inV x xs)) H
theorem cu:OpR X (compareOp .In) (rIn X.K false):=by
 intro pins s σ H x y v u Q I rx ry h;obtain ⟨p,xs,rfl,hq,fx,fs,q⟩:=h
 cases ry
 rcases hq with hq | hq
 ·obtain ⟨its,r,pl,hz⟩:=I.list hq;refine SeqAt.in_listAt (eqU x) pl.isList (fun w hw=>eX rx fx r fs w (by simpa using hw)) (zAA (.bl _) H I rfl ?_);rw [show its.toArray.any (eqU x)=its.any (eqU x) by simp,ik r fs];exact q
 ·obtain ⟨its,r,pl,hz⟩:=I.tuple hq;refine SeqAt.in_tupleAt (eqU x) pl (fun w hw=>eX rx fx r fs w (by simpa using hw)) (zAA (.bl _) H I rfl ?_);rw [show its.toArray.any (eqU x)=its.any (eqU x) by simp,ik r fs];exact q
theorem iE:OpR X (compareOp .NotIn) (rIn X.K true):=by
 intro pins s σ H x y v u Q I rx ry h;obtain ⟨p,xs,rfl,hq,fx,fs,q⟩:=h
 cases ry
 rcases hq with hq | hq
 ·obtain ⟨its,r,pl,hz⟩:=I.list hq;refine SeqAt.notIn_listAt (eqU x) pl.isList (fun w hw=>eX rx fx r fs w (by simpa using hw)) (zAA (.bl _) H I rfl ?_);rw [show its.toArray.any (eqU x)=its.any (eqU x) by simp,ik r fs];exact q
 ·obtain ⟨its,r,pl,hz⟩:=I.tuple hq;refine SeqAt.notIn_tupleAt (eqU x) pl (fun w hw=>eX rx fx r fs w (by simpa using hw)) (zAA (.bl _) H I rfl ?_);rw [show its.toArray.any (eqU x)=its.any (eqU x) by simp,ik r fs];exact q
theorem aJ:eP X (.builtin "len") (fun xs H Q=>∃p ys,xs=[.ref p]/\(SqL X.K H p ys\/SqT X.K H p ys)/\Q (.int ys.length) H):=by
 intro pins s σ H xs us Q I r h;obtain ⟨p,ys,rfl,hq,q⟩:=h;obtain ⟨u,rfl,rx⟩:=iS r
 cases rx
 have hn:=kf;rcases hq with hq | hq
 ·obtain ⟨its,r',pl,hz⟩:=I.list hq;have hlen:=r'.length;exact Calls.call_len_list pl.isList (by simp only [List.size_toArray]<;>omega) (zAA (.int ys.length) H (I.tok _) ⟨s.toks+1,by rw [fI,hlen]⟩ q)
 ·obtain ⟨its,r',pl,hz⟩:=I.tuple hq;have hlen:=r'.length;exact len_tuple pl (by simp only [List.size_toArray]<;>omega) (zAA (.int ys.length) H (I.tok _) ⟨s.toks+1,by rw [fI,hlen]⟩ q)
theorem dG:eP X (.type "list") (fun xs H Q=>∃p ys,xs=[.ref p]/\(SqL X.K H p ys\/SqT X.K H p ys)/\∀l,H l=none->Q (.ref l) (upd H l (.lst ys))):=by
 intro pins s σ H xs us Q I r h;obtain ⟨p,ys,rfl,hq,q⟩:=h;obtain ⟨u,rfl,rx⟩:=iS r
 cases rx
 have fin:∀(its:List Value),Vals ys its->ys.length<=sizeLine->∀(h':Heap)(c':Nat),(∀b o',s.heap.get? b=some o'->h'.get? b=some o')->
   h'.get? s.heap.objs.size=some {cls:=.type "list",dict:=none,data:=.seq its.toArray c',slots:=#[]}->EP X pins σ Q (.ref s.heap.objs.size) {s with heap:=h'}:=fun its r' hz h' c' kp e=>
  (zAA (.ref s.heap.objs.size) _ (I.laid (t':=s.toks) kp (zq0 _) (show ObjOk X.prog X.w _ h' _ (.lst ys) from ⟨hz,zAD its c' r' e⟩)) rfl (q _ (I.hok.fresh (zq0 _))))
 rcases hq with hq | hq
 ·obtain ⟨its,r',pl,hz⟩:=I.list hq;have hlen:=r'.length;obtain ⟨o,ho,hc,n,hd⟩:=pl.isList;exact call_list_seq p (.inl rfl) ho hc hd (fun h' c' kp e=>fin its r' hz h' c' kp e) (by simp only [List.size_toArray]<;>omega)
 ·obtain ⟨its,r',pl,hz⟩:=I.tuple hq;have hlen:=r'.length;obtain ⟨o,ho,hc,n,hd⟩:=pl;exact call_list_seq p (.inr rfl) ho hc hd (fun h' c' kp e=>fin its r' hz h' c' kp e) (by simp only [List.size_toArray]<;>omega)
theorem kU:eP X (.type "tuple") (fun xs H Q=>∃p ys,xs=[.ref p]/\((SqL X.K H p ys/\∀l,H l=none->Q (.ref l) (upd H l (.tup ys)))\/(SqT X.K H p ys/\Q (.ref p) H))):=by
 intro pins s σ H xs us Q I r h;obtain ⟨p,ys,rfl,h⟩:=h;obtain ⟨u,rfl,rx⟩:=iS r
 cases rx
 rcases h with ⟨hq,q⟩ | ⟨hq,q⟩
 ·obtain ⟨its,r',pl,hz⟩:=I.list hq;have hlen:=r'.length;refine call_tuple_list pl.isList (fun h' kp=>?_) (by simp only [List.size_toArray]<;>omega);have I1:Inv X pins σ H {s with heap:=h'}:=I.kept (t':=s.toks) kp;have I2:Inv X pins σ (upd H h'.objs.size (.tup ys)) {s with heap:=h'.push {cls:=.type "tuple",data:=.seq its.toArray}}:=
   I1.laid (t':=s.toks) (fun b o e=>bX _ e) (zq0 _) (show ObjOk X.prog X.w _ _ _ (.tup ys) from ⟨hz,zn its r' (IsTup.new _ _)⟩)
  exact zAA (.ref h'.objs.size) _ I2 rfl (q _ (I1.hok.fresh (zq0 _)))
 ·obtain ⟨its,r',pl,hz⟩:=I.tuple hq;exact call_tuple_same pl (zAA (.ref p) H I rfl q)
def tyV(K:W.Frag)(T:String)(x:V)(H:Hp):Prop:=match x with
 | .str _=>T="str"
 | .int _=>T="int"
 | .ref p=>(T="list"/\∃xs,SqL K H p xs)\/(T="tuple"/\∃o,K.lookup p=some o/\o.cls=.type "tuple"/\o.dict=none)\/
   (T="dict"/\((∃kvs,H p=some (.dK kvs))\/∃kvs,H p=some (.dT kvs)))\/(T="set"/\∃S n,H p=some (.set S n))
 |_=>False
theorem sk{pins:List (Addr×Obj)}{σ:St}{H:Hp}{s:Shared}{T:String}{x:V}{v:Value}(I:Inv X pins σ H s)(r:RelV x v)(ty:tyV X.K T x H):
  s.TypeIs v T/\∀a,v=.ref a->∃ob,s.heap.get? a=some ob/\ob.dict=none:=by
 cases x with
 |str z=>
  obtain ⟨t,rfl⟩:=r
  cases (show T="str" from ty)
  exact ⟨typeIs_str s z t,fun _ e=>nomatch e⟩
 |int i=>
  obtain ⟨t,rfl⟩:=r
  cases (show T="int" from ty)
  exact ⟨typeIs_int s i t,fun _ e=>nomatch e⟩
 |ref p=>
  cases r
  rcases ty with ⟨rfl,xs,hq⟩ | ⟨rfl,o,hk,hc,hd⟩ | ⟨rfl,hk⟩ | ⟨rfl,S,n,hk⟩
  ·obtain ⟨its,_,pl,_⟩:=I.list hq;refine ⟨pl.isList.typeIs,fun a e=>?_⟩
   cases e
   obtain ⟨o,n,e,c,hd,_⟩:=pl;exact zn o e hd
  ·refine ⟨zn o (I.kIn p o hk) hc,fun a e=>?_⟩
   cases e
   exact zn o (I.kIn _ o hk) hd
  ·have z:∃o,s.heap.get? p=some o/\o.ExactDict:=by
    rcases hk with ⟨kvs,hk⟩ | ⟨kvs,hk⟩
    ·obtain ⟨_,_,_,_,o,_,_,e,ex,_⟩:=I.hok p _ hk;exact zn o e ex
    ·obtain ⟨_,_,_,_,o,_,_,e,ex,_⟩:=I.hok p _ hk;exact zn o e ex
   obtain ⟨o,e,ex⟩:=z;refine ⟨zn o e ex.1,fun a e2=>?_⟩
   cases e2
   exact zn o e ex.2.1
  ·obtain ⟨o,_,_,_,e,ex,_⟩:=I.hok p _ hk;refine ⟨zn o e ex.1,fun a e2=>?_⟩
   cases e2
   exact zn o e ex.2.1
 |_=>exact False.elim ty
def Io(K:W.Frag)(T:String)(r:V->List V->Hp->VK->Prop)(to:TE):TE:=fun σ H Q=>to σ H fun x H1=>tyV K T x H1/\r x [] H1 Q
def tBM(K:W.Frag)(T:String)(r:V->List V->Hp->VK->Prop)(to:TE)(t:TA):TE:=fun σ H Q=>to σ H fun x H1=>tyV K T x H1/\t σ H1 fun xs H2=>r x xs H2 Q
variable {o e:Expr} {es:List Expr} {to:TE} {t:TA} {name:Str} {apos cpos:Pos} {T id:String} {r:V->List V->Hp->VK->Prop}
theorem Ho(pa:PlainAttrs T)(slot:Slot T name id)(hty:typeOf (.builtin id)=pure (.type "method_descriptor")) (hm:MtR X id r) (ho:PE X o to) (ha:PA X (e::es) t)
  (hbase:attributeBase o name X.env (eval o X.env)=eval o X.env:=by rfl)
  (hfew:((backTo cpos (starEach (e::es) X.env)).all (fun x=>!x.1)&&(backToKw cpos (keywordEach [] X.env)).all (fun x=>x.1.isSome)
   && decide ((e::es).length+([]:List Keyword).length+(if ([]:List Keyword).isEmpty then 0 else 1)<30))=true:=by rfl)
  (hline:(apos.endLine==cpos.line)=true:=by rfl) (hs:starEach (e::es) X.env=(false,eval e X.env)::starEach es X.env:=by rfl) (hplain:(backTo cpos (starEach es X.env)).any (·.1)=false:=by rfl) :
  PE X (.Call (.Attribute o name apos) (e::es) [] cpos) (tBM X.K T r to t):=by
 intro pins s σ H Q I h;refine wpAny_Call_method_late hbase hfew hline rfl (thn (ho pins s σ H _ I h) fun v s1 hhx=>?_);obtain ⟨x,H1,I1,r1,ty,q1⟩:=hhx;obtain ⟨h1,h2⟩:=sk I1 r1 ty;refine zBI T id pa slot hty h1 h2 ?_;have hA:=ha cpos pins s1 σ H1 _ I1 q1;rw [hs] at hA ⊢;refine Calls.callWith_builtin (by show (false || (backTo cpos (starEach es X.env)).any (·.1))=false;rw [hplain]<;>rfl) (Calls.evalArgs_plain ?_);exact thn hA fun us s2 ⟨vs,H2,I2,r2,q2⟩=>hm pins s2 σ H2 x vs v us Q I2 r1 r2 q2
/- xs.append(e),list.index on a module's tuple .. are MtR facts of 06m -/
end
end L2
namespace L2
def MtM(X:Cx)(id:String)(r:V->List V->Hp->VK->Prop):Prop:=
 ∀(pins:List (Addr×Obj)) (s:Shared) (σ:St) (H:Hp) (x:V) (xs:List V) (v:Value) (us:List Value) (Q:VK),Inv X pins σ H s->RelV x v->Vals xs us->r x xs H Q->
  wpAny (model X.prog X.w) X.A (call (.builtin id) (v::us)) (EP X pins σ Q) X.xe s
theorem Vals.one:∀{x:V} {us:List Value},Vals [x] us->∃u,us=[u]/\RelV x u
 |_,_,.cons r .nil=>zn _ rfl r
theorem Vals.zero:∀{us:List Value},Vals [] us->us=[]
 |_,.nil=>rfl
theorem Vals.dropLast{xs:List V}{us:List Value}(h:Vals xs us):Vals xs.dropLast us.dropLast:=by
 induction h with
 |nil=>exact .nil
 |cons r t ih=>
  cases t with
  |nil=>exact .nil
  |cons q t'=>exact .cons r ih
theorem qZ{α:Type}(l:List α):l.eraseIdx (l.length-1)=l.dropLast:=by
 induction l with
 |nil=>rfl
 |cons a r ih=>
  cases r with
  |nil=>rfl
  |cons b r=>
   have e:(a::b::r).length-1=((b::r).length-1)+1:=by have h1:(a::b::r).length=r.length+2:=rfl;have h2:(b::r).length=r.length+1:=rfl;omega
   rw [e,List.eraseIdx_cons_succ,ih]
   all_goals rfl
section
variable {X:Cx} {pins:List (Addr×Obj)} {σ:St} {H:Hp} {s:Shared} {l b:Addr} {xs ys zs:List V}
theorem Inv.lset{its its':List Value}{n:Nat}{f:Array Value->Array Value}{t':Nat}(I:Inv X pins σ H s)(hH:H l=some (.lst xs))
  (e:s.heap.get? l=some {cls:=.type "list",data:=.seq its.toArray n}) (hf:f its.toArray=its'.toArray) (hv:Vals ys its') (hz:ys.length<=sizeLine) :
  Inv X pins σ (upd H l (.lst ys)) {s with heap:=s.heap.update l (Obj.mapSeq f),toks:=t'}:=by
 have q:=PySem.IsL.update e f;rw [hf] at q;refine I.write (x:=l) (e:=l) (by rw [hH];exact trivial) (.inl rfl) (fun b' u hb hu=>(A2 s.heap (Obj.mapSeq f) (Ne.symm hb)).trans hu) ⟨_,q⟩ ?_;exact ⟨hz,zAD its' _ hv q⟩
theorem Inv.lnew{its:List Value}{t':Nat}(I:Inv X pins σ H s)(hv:Vals ys its)(hz:ys.length<=sizeLine):
  Inv X pins σ (upd H s.heap.objs.size (.lst ys)) {s with heap:=s.heap.push {cls:=.type "list",data:=.seq its.toArray},toks:=t'}:=
 I.laid (fun _ _ q=>bX _ q) (zq0 _) ⟨hz,zAD its 0 hv (dA _ rfl)⟩
theorem Inv.fresh(I:Inv X pins σ H s):H s.heap.objs.size=none:=I.hok.fresh (zq0 _)
theorem Inv.lstM(I:Inv X pins σ H s)(hH:H l=some (.lst xs)):xs.length<=sizeLine/\∃(its:List Value)(n:Nat),Vals xs its/\xs.length=its.length/\s.heap.get? l=some {cls:=.type "list",data:=.seq its.toArray n}:=by obtain ⟨z,its,n,r,e⟩:=I.hok l _ hH;exact ⟨z,zAA its n r r.length e⟩
theorem xS{n:Nat}(h:n<=sizeLine):Builtin.List.listTooLong n=false:=by unfold Builtin.List.listTooLong;exact decide_eq_false Jy
end
section
variable {X:Cx}
def tT:V->List V->Hp->VK->Prop:=fun x vs H Q=>∃l xs y,x=.ref l/\vs=[y]/\H l=some (.lst xs)/\xs.length<sizeLine/\Q .non (upd H l (.lst (xs++[y])))
theorem bg:MtM X "list.append" tT:=by
 intro pins s σ H x vs v us Q I rx rv h;obtain ⟨l,xs,y,rfl,rfl,hH,hz,q⟩:=h
 cases rx
 obtain ⟨u,rfl,ru⟩:=rv.one;obtain ⟨z,its,n,r,hl,e⟩:=I.lstM hH;refine call_meets F.slot_list_append (zn _ e rfl) F.entry_list_append (F.args_list_append_2 _ _) (PySem.list_append l its.toArray n u (by rw [fI];omega)) ⟨e,?_⟩;refine zAA .non _ (I.lset (its':=its++[u]) hH e Jz (r.append (.cons ru .nil)) ?_) rfl q;rw [zq4,c9];omega
def BH:V->List V->Hp->VK->Prop:=fun x vs H Q=>∃l b xs zs,x=.ref l/\vs=[.ref b]/\H l=some (.lst xs)/\H b=some (.lst zs)/\xs.length+zs.length<=sizeLine/\Q .non (upd H l (.lst (xs++zs)))
theorem vD:MtM X "list.extend" BH:=by
 intro pins s σ H x vs v us Q I rx rv h;obtain ⟨l,b,xs,zs,rfl,rfl,hH,hB,hz,q⟩:=h
 cases rx
 obtain ⟨u,rfl,ru⟩:=rv.one
 cases ru
 obtain ⟨z,its,n,r,hl,e⟩:=I.lstM hH;obtain ⟨z2,its2,n2,r2,hl2,e2⟩:=I.lstM hB;have hsz:its.toArray.size+its2.toArray.size<=sizeLine:=by rw [fI,fI];omega
 have hlong:¬(!its.toArray.isEmpty&&Builtin.List.listTooLong (its.toArray.size+its2.toArray.size))=true:=by rw [xS hsz,Bool.and_false];exact zq3
 refine call_meets F.slot_list_extend (zn _ e rfl) F.entry_list_extend (F.args_list_extend_2 _ _)
  (AutoSeq1.list_extend_list_list_0 l its.toArray n b its2.toArray n2 hlong (by rw [fI];omega) Jy) (zAB e e2 ?_)
 refine zAA .non _ (I.lset (its':=its++its2) hH e Jz (r.append r2) ?_) rfl q;rw [zq4];omega
def Hu:V->List V->Hp->VK->Prop:=fun x vs H Q=>∃l xs y,x=.ref l/\vs=[]/\H l=some (.lst xs)/\xs[xs.length-1]?=some y/\Q y (upd H l (.lst xs.dropLast))
theorem mZ:MtM X "list.pop" Hu:=by
 intro pins s σ H x vs v us Q I rx rv h;obtain ⟨l,xs,y,rfl,rfl,hH,hy,q⟩:=h
 cases rx
 have hus:=rv.zero;subst hus;obtain ⟨z,its,n,r,hl,e⟩:=I.lstM hH;obtain ⟨u,hu,ru⟩:=r.get hy;have hy':its.toArray[its.toArray.size-1]?=some u:=by show its.toArray[its.length-1]?=some u;rw [<- DR,<- hl];exact hu
 refine call_meets F.slot_list_pop (zn _ e rfl) F.entry_list_pop (F.args_list_pop_1 _) (MeetsSeq.list_pop_last l its.toArray n u hy' (by rw [fI];omega)) ⟨e,?_⟩;refine zAA y _ (I.lset (its':=its.dropLast) hH e ?_ r.dropLast ?_) ru q
 ·show its.toArray.eraseIdxIfInBounds (its.toArray.size-1)=its.dropLast.toArray;rw [fI,List.eraseIdxIfInBounds_toArray,qZ]
 ·rw [kP];omega
def Hr:R2:=fun x y H Q=>∃l b xs zs,x=.ref l/\y=.ref b/\H l=some (.lst xs)/\H b=some (.lst zs)/\xs.length+zs.length<=sizeLine/\∀p,H p=none->Q (.ref p) (upd H p (.lst (xs++zs)))
theorem eN:OpR X (binaryOp .Add) Hr:=by
 intro pins s σ H x y v u Q I rx ry h;obtain ⟨l,b,xs,zs,rfl,rfl,hH,hB,hz,q⟩:=h
 cases rx
 cases ry
 obtain ⟨z,its,n,r,hl,e⟩:=I.lstM hH;obtain ⟨z2,its2,n2,r2,hl2,e2⟩:=I.lstM hB;refine PySem.P.add_list e e2 ?_ (by rw [fI,fI];omega);have ea:its.toArray++its2.toArray=(its++its2).toArray:=by simp
 rw [ea];exact zAA (.ref _) _ (I.lnew (t':=s.toks) (r.append r2) (by rw [zq4];omega)) rfl (q _ I.fresh)
end
section
variable {prog:Program} {w:World} {A:Around} {E:Value->Shared->Prop} {s:Shared}
end
section
variable {X:Cx}
end
end L2
namespace L2
section
variable {κ:Type} [DecidableEq κ]
def bE(kvs:List (κ×V))(k:κ):Option V:=(kvs.find? fun kv=>decide (kv.1=k)).map (·.2)
def bv(kvs:List (κ×V))(k:κ)(v:V):List (κ×V):=
 if (kvs.any fun kv=>decide (kv.1=k))=true then kvs.map (fun kv=>if kv.1=k then (kv.1,v) else kv) else kvs++[(k,v)]
theorem bU{p:κ×V}{r:List (κ×V)}{k:κ}(e:p.1=k):bE (p::r) k=some p.2:=by simp [bE,List.find?_cons,e]
theorem bO{p:κ×V}{r:List (κ×V)}{k:κ}(e:¬p.1=k):bE (p::r) k=bE r k:=by simp [bE,List.find?_cons,e]
theorem cM(k:κ):∀kvs:List (κ×V),(kvs.any fun kv=>decide (kv.1=k))=(bE kvs k).isSome
 | []=>rfl
 |p::r=>by
  rw [qF]
  by_cases e:p.1=k
  ·simp only [bU e,decide_eq_true e,Bool.true_or,Option.isSome_some]
  ·rw [bO e,decide_eq_false e,Bool.false_or];exact cM k r
theorem qB(k j:κ)(y:V):∀kvs:List (κ×V),bE (kvs.map fun kv=>if kv.1=k then (kv.1,y) else kv) j=(bE kvs j).map fun x=>if j=k then y else x
 | []=>rfl
 |p::r=>by
  have ih:=qB k j y r;rw [d9]
  by_cases h:p.1=k
  ·rw [if_pos h]
   by_cases e:p.1=j
   ·rw [bU (p:=(p.1,y)) e,bU e,uJ,if_pos (e.symm.trans h)]
   ·rw [bO (p:=(p.1,y)) e,bO e,ih]
  ·rw [if_neg h]
   by_cases e:p.1=j
   ·rw [bU (p:=p) e,bU e,uJ,if_neg (fun z=>h (e.trans z))]
   ·rw [bO (p:=p) e,bO e,ih]
theorem mB(k j:κ)(y:V):∀kvs:List (κ×V),bE kvs k=none->bE (kvs++[(k,y)]) j=if j=k then some y else bE kvs j
 | [],_=>by
  by_cases e:k=j
  ·rw [if_pos e.symm];exact bU (p:=(k,y)) e
  ·rw [if_neg (fun z=>e z.symm)];exact bO (p:=(k,y)) e
 |p::r,hn=>by
  rw [wJ];have hk:¬p.1=k:=fun z=>by rw [bU z] at hn;cases hn
  rw [bO hk] at hn;have ih:=mB k j y r hn
  by_cases e:p.1=j
  ·rw [bU e,bU e,if_neg (fun z=>hk (e.trans z))]
  ·rw [bO e,bO e,ih]
theorem qC(kvs:List (κ×V))(k j:κ)(y:V):bE (bv kvs k y) j=if j=k then some y else bE kvs j:=by
 unfold bv
 by_cases a:(kvs.any fun kv=>decide (kv.1=k))=true
 ·rw [if_pos a,qB];rw [cM] at a
  by_cases e:j=k
  ·obtain ⟨x,hx⟩:=zq142.mp a;rw [if_pos e,e,hx,uJ,if_pos rfl]
  ·rw [if_neg e]
   cases bE kvs j with
   |none=>rfl
   |some x=>rw [uJ,if_neg e]
 ·rw [if_neg a];refine mB k j y kvs ?_;rw [cM] at a
  cases q:bE kvs k with
  |none=>rfl
  |some x=>rw [q] at a;exact (a rfl).elim
theorem cT(kvs:List (κ×V))(k:κ)(v:V):(bv kvs k v).length<=kvs.length+1:=by
 unfold bv
 split
 ·rw [zq1];omega
 ·rw [zq4,cJ,uK];omega
theorem pM{kvs:List (κ×V)}{k:κ}(v:V)(h:bE kvs k=none):bv kvs k v=kvs++[(k,v)]:=by unfold bv;rw [cM,h];exact if_neg Jx
theorem RelO.isSome_eq{o:Option V}{u:Option Value}(r:RelO o u):o.isSome=u.isSome:=by
 cases o with
 |none=>cases u with
  |none=>rfl
  |some _=>exact (show False from r).elim
 |some _=>cases u with
  |none=>exact (show False from r).elim
  |some _=>rfl
theorem RelO.getD{o:Option V}{u:Option Value}{d:V}{d':Value}(r:RelO o u)(rd:RelV d d'):RelV (o.getD d) (u.getD d'):=by
 cases o with
 |none=>cases u with
  |none=>exact rd
  |some _=>exact (show False from r).elim
 |some _=>cases u with
  |none=>exact (show False from r).elim
  |some _=>exact r
theorem KV.val{kvs:List (κ×V)}{vs:List (κ×Value)}(r:KV kvs vs)(k:κ):RelO (bE kvs k) (valueAt vs k):=by
 unfold KV at r
 induction r with
 |nil=>exact True.intro
 | @cons p q ps qs h t ih=>
  obtain ⟨h1,h2⟩:=h
  by_cases e:p.1=k
  ·have e':q.1=k:=h1.symm.trans e;have b:valueAt (q::qs) k=some q.2:=by simp [valueAt,List.find?_cons,e']
   rw [bU e,b];exact h2
  ·have e':¬q.1=k:=fun z=>e (h1.trans z);have b:valueAt (q::qs) k=valueAt qs k:=by simp [valueAt,List.find?_cons,e']
   rw [bO e,b];exact ih
theorem KV.any{kvs:List (κ×V)}{vs:List (κ×Value)}(r:KV kvs vs)(k:κ):(kvs.any fun kv=>decide (kv.1=k))=vs.any fun kv=>decide (kv.1=k):=by
 unfold KV at r
 induction r with
 |nil=>rfl
 |cons h t ih=>rw [qF,qF,ih,h.1]
theorem KV.repl{kvs:List (κ×V)}{vs:List (κ×Value)}(r:KV kvs vs)(k:κ){y:V}{u:Value}(ry:RelV y u):
  KV (kvs.map fun kv=>if kv.1=k then (kv.1,y) else kv) (vs.map fun kv=>if kv.1=k then (kv.1,u) else kv):=by
 unfold KV at r ⊢
 induction r with
 |nil=>exact .nil
 | @cons p q ps qs h t ih=>
  rw [d9,d9];refine .cons ?_ ih;obtain ⟨h1,h2⟩:=h
  by_cases e:p.1=k
  ·rw [if_pos e,if_pos (h1.symm.trans e)];exact ⟨h1,ry⟩
  ·rw [if_neg e,if_neg (fun z=>e (h1.trans z))];exact ⟨h1,h2⟩
theorem KV.put{kvs:List (κ×V)}{vs:List (κ×Value)}(r:KV kvs vs)(k:κ){y:V}{u:Value}(ry:RelV y u):KV (bv kvs k y) (stored vs k u):=by
 unfold bv stored;rw [r.any k]
 by_cases e:(vs.any fun kv=>decide (kv.1=k))=true
 ·rw [if_pos e,if_pos e];exact r.repl k ry
 ·rw [if_neg e,if_neg e];exact Paired.snoc r ⟨rfl,ry⟩
theorem KV.keys{kvs:List (κ×V)}{vs:List (κ×Value)}(r:KV kvs vs):kvs.map (·.1)=vs.map (·.1):=by
 unfold KV at r
 induction r with
 |nil=>rfl
 |cons h t ih=>rw [d9,d9,ih,h.1]
theorem KV.length{kvs:List (κ×V)}{vs:List (κ×Value)}(r:KV kvs vs):kvs.length=vs.length:=Paired.length r
end
theorem lV{P:Program}{w:World}{k:Key}{u:Value}(r:RelV (kV k) u):(bC P w).is k u=true:=by
 cases k with
 |inl i=>obtain ⟨t,e⟩:=(show ∃t,u=Value.int i t from r);subst e;exact pv P w i t
 |inr x=>obtain ⟨t,e⟩:=(show ∃t,u=Value.str x t from r);subst e;exact pz P w x t
theorem lU{P:Program}{w:World}:∀{ks:List Key} {us:List Value},Vals (ks.map kV) us->ItemsAre (bC P w) ks us
 | [],_,r=>by rw [A3] at r;cases r;exact .nil
 |k::ks,_,r=>by
  rw [d9] at r
  cases r with
  |cons h t=>exact .cons (lV h) (lU t)
abbrev KT (H:Hp):List (List Key×V)->List (List Key×Addr×Value)->Prop:=Paired fun p q=>p.1=q.1/\H q.2.1=some (.tup (p.1.map kV))/\RelV p.2 q.2.2
theorem KT.val{H:Hp}{kvs:List (List Key×V)}{xs:List (List Key×Addr×Value)}(r:KT H kvs xs)(k:List Key):RelO (bE kvs k) ((atKey xs k).map (·.2)):=by
 induction r with
 |nil=>exact True.intro
 | @cons p q ps qs h t ih=>
  obtain ⟨h1,_,h2⟩:=h
  by_cases e:p.1=k
  ·have e':q.1=k:=h1.symm.trans e;have b:atKey (q::qs) k=some q.2:=by simp [atKey,List.find?_cons,e']
   rw [bU e,b];exact h2
  ·have e':¬q.1=k:=fun z=>e (h1.trans z);have b:atKey (q::qs) k=atKey qs k:=by simp [atKey,List.find?_cons,e']
   rw [bO e,b];exact ih
theorem KT.repl{H:Hp}{kvs:List (List Key×V)}{xs:List (List Key×Addr×Value)}(r:KT H kvs xs)(k:List Key){y:V}{u:Value}(ry:RelV y u):
  KT H (kvs.map fun kv=>if kv.1=k then (kv.1,y) else kv) (xs.map (putAt k u)):=by
 induction r with
 |nil=>exact .nil
 | @cons p q ps qs h t ih=>
  rw [d9,d9];refine .cons ?_ ih;obtain ⟨h1,h2,h3⟩:=h;unfold putAt
  by_cases e:p.1=k
  ·rw [if_pos e,if_pos (h1.symm.trans e)];exact zAB h1 h2 ry
  ·rw [if_neg e,if_neg (fun z=>e (h1.trans z))];exact zAB h1 h2 h3
theorem KT.put{H:Hp}{kvs:List (List Key×V)}{xs:List (List Key×Addr×Value)}(r:KT H kvs xs)(k:List Key){b:Addr}{y:V}{u:Value}(hb:H b=some (.tup (k.map kV)))(ry:RelV y u):
  KT H (bv kvs k y) (storedH xs k b u):=by
 have e:(kvs.any fun kv=>decide (kv.1=k))=(atKey xs k).isSome:=by rw [cM,(r.val k).isSome_eq,Option.isSome_map]
 unfold bv storedH;rw [e]
 by_cases q:(atKey xs k).isSome=true
 ·rw [if_pos q,if_pos q];exact r.repl k ry
 ·rw [if_neg q,if_neg q];exact Paired.snoc r (zAB rfl hb ry)
theorem KT.keeps{H H':Hp}{kvs:List (List Key×V)}{xs:List (List Key×Addr×Value)}(r:KT H kvs xs)(ht:∀b ys,H b=some (.tup ys)->H' b=some (.tup ys)):KT H' kvs xs:=
 Paired.mapP r fun _ _ z=>zAB z.1 (ht _ _ z.2.1) z.2.2
section
variable {P:Program} {w:World} {H:Hp} {h:Heap} {a:Addr}
theorem CH{u:HO}(ok:HOk P w H h)(e:Rd H a u):ObjOk P w H h a u:=e.ok ok
theorem gX{kvs:List (Key×V)}(ok:HOk P w H h)(e:Rd H a (.dK kvs)):kvs.length<=sizeLine/\(a==sysModules)=false/\∃vs,KV kvs vs/\h.DictOf (bC P w) a vs:=
 show ObjOk P w H h a (.dK kvs) from CH ok e
theorem Cu{kvs:List (Key×V)}(ok:HOk P w H h)(e:H a=some (.dK kvs)):kvs.length<=sizeLine/\(a==sysModules)=false/\∃vs,KV kvs vs/\h.DictOf (bC P w) a vs:=gX ok (.inl e)
theorem j7{ks:List Key}(ok:HOk P w H h)(e:H a=some (.tup (ks.map kV))):(tupleKind (bC P w)).is h ks a:=by
 obtain ⟨_,its,r,o,h1,h2,n,h3⟩:=(show ObjOk P w H h a (.tup (ks.map kV)) from ok a _ e)
 exact zAO o its.toArray n h1 h2 h3 (by simpa using lU r)
theorem oV{kvs:List (List Key×V)}(ok:HOk P w H h)(e:Rd H a (.dT kvs)):kvs.length<=sizeLine/\(a==sysModules)=false/\
  ∃xs,KT H kvs xs/\h.DictOfH (tupleKind (bC P w)) a xs:=by
 obtain ⟨z,y,xs,r,o,es,ep,h1,h2,h3,h4,h5⟩:=(show ObjOk P w H h a (.dT kvs) from CH ok e)
 refine zAB z y (zn xs r (zAH o es ep (zAQ h1 h2 h3 h4 (fun x hx=>?_) h5)));have all:∀{l:List (List Key×V)} {m:List (List Key×Addr×Value)},KT H l m->∀x∈m,(tupleKind (bC P w)).is h x.1 x.2.1:=by
  intro l m q
  induction q with
  |nil=>intro x hx;exact nomatch hx
  | @cons p q ps qs hq t ih=>
   intro x hx;rcases zq5.mp hx with e | hx
   ·subst e;exact j7 ok (by rw [<- hq.1];exact hq.2.1)
   ·exact ih x hx
 exact all r x hx
theorem xo{kvs:List (List Key×V)}(ok:HOk P w H h)(e:H a=some (.dT kvs)):kvs.length<=sizeLine/\(a==sysModules)=false/\
  ∃xs,KT H kvs xs/\h.DictOfH (tupleKind (bC P w)) a xs:=oV ok (.inl e)
end
def DGet(H:Hp)(a:Addr)(y:V)(r:Option V):Prop:=
 (∃kvs k,Rd H a (.dK kvs)/\y=kV k/\r=bE kvs k)\/∃kvs k b,Rd H a (.dT kvs)/\y=.ref b/\H b=some (.tup (k.map kV))/\r=bE kvs k
def DPut(H:Hp)(a:Addr)(y v:V)(H':Hp):Prop:=
 (∃kvs k,H a=some (.dK kvs)/\y=kV k/\kvs.length<sizeLine/\H'=upd H a (.dK (bv kvs k v)))\/
 ∃kvs k b,H a=some (.dT kvs)/\y=.ref b/\H b=some (.tup (k.map kV))/\kvs.length<sizeLine/\H'=upd H a (.dT (bv kvs k v))
theorem DGet.k{H:Hp}{a:Addr}{kvs:List (Key×V)}{k:Key}(e:H a=some (.dK kvs)):DGet H a (kV k) (bE kvs k):=.inl (zAA kvs k (.inl e) rfl rfl)
theorem DGet.t{H:Hp}{a b:Addr}{kvs:List (List Key×V)}{k:List Key}(e:H a=some (.dT kvs))(eb:H b=some (.tup (k.map kV))):DGet H a (.ref b) (bE kvs k):=.inr (zAO kvs k b (.inl e) rfl eb rfl)
theorem DPut.k{H:Hp}{a:Addr}{kvs:List (Key×V)}{k:Key}{v:V}(e:H a=some (.dK kvs))(hl:kvs.length<sizeLine):DPut H a (kV k) v (upd H a (.dK (bv kvs k v))):=.inl (zAE kvs k e rfl hl rfl)
section
variable {X:Cx} {pins:List (Addr×Obj)} {σ:St} {H:Hp} {s:Shared} {a:Addr} {y v:V} {u r:Value} {o:Option V} {A:Around} {E:Value->Shared->Prop}
theorem Inv.big(I:Inv X pins σ H s):sysModules<s.heap.objs.size:=by have h:mainGlobals<s.heap.objs.size:=(I.mod.glob.keeps I.bk).lt;exact Nat.lt_trans Jx h
theorem v8{Q:Value->Shared->Prop}(hu:A.units+1<cLine)(I:Inv X pins σ H s)(g:DGet H a y (some v))(ry:RelV y u)(h:∀w' s',Inv X pins σ H s'->RelV v w'->Q w' s'):
  wpAny (model X.prog X.w) A (getItem (.ref a) u) Q E s:=by
 rcases g with ⟨kvs,k,e,ey,l⟩ | ⟨kvs,k,b,e,ey,eb,l⟩
 ·subst ey;obtain ⟨z,hd,vs,rel,dd⟩:=gX I.hok e;obtain ⟨w',hw,rw'⟩:=RelO.some_of (v:=v) (o:=valueAt vs k) (by rw [l];exact rel.val k);exact wpAny_getItem_of (lV ry) dd.mapOf hw (h w' _ (I.tok _) rw')
 ·subst ey
  cases (show u=Value.ref b from ry)
  obtain ⟨z,hd,xs,rel,dd⟩:=oV I.hok e;obtain ⟨w',hw,rw'⟩:=RelO.some_of (v:=v) (o:=(atKey xs k).map (·.2)) (by rw [l];exact rel.val k);obtain ⟨p,hp,hp2⟩:=zq32.mp hw;refine wpAny_getItem_heap (tupleKind_room_in1 hu) (j7 I.hok eb) dd hp ?_;rw [hp2];exact h w' _ (I.tok _) rw'
theorem B3{Q:Value->Shared->Prop}(hu:A.units+1<cLine)(I:Inv X pins σ H s)(g:DGet H a y o)(ry:RelV y u)(h:∀s',Inv X pins σ H s'->Q (.bool (!o.isSome)) s'):
  wpAny (model X.prog X.w) A (compareOp .NotIn u (.ref a)) Q E s:=by
 rcases g with ⟨kvs,k,e,ey,l⟩ | ⟨kvs,k,b,e,ey,eb,l⟩
 ·subst ey;obtain ⟨z,hd,vs,rel,dd⟩:=gX I.hok e;refine wpAny_notIn_of (lV ry) hd dd.mapOf ?_;rw [<- (rel.val k).isSome_eq,<- l];exact h _ (I.tok _)
 ·subst ey
  cases (show u=Value.ref b from ry)
  obtain ⟨z,hd,xs,rel,dd⟩:=oV I.hok e;refine wpAny_notIn_heap (tupleKind_room_in1 hu) (j7 I.hok eb) hd dd ?_;have q:=(rel.val k).isSome_eq;rw [Option.isSome_map] at q;rw [<- q,<- l];exact h _ (I.tok _)
theorem iz{h':Heap}{t':Nat}{ob:HO}(I:Inv X pins σ H s)(mu:Mut (H a))(hs:Heap.SameBut a s.heap h')(he:∃q,h'.get? a=some q)(new:ObjOk X.prog X.w (upd H a ob) h' a ob):
  Inv X pins σ (upd H a ob) {s with heap:=h',toks:=t'}:=
 I.write (x:=a) (e:=a) mu (.inl rfl) (fun b q hb z=>(hs.2 b hb).trans z) he new
theorem qV{P:Program}{w:World}{H':Hp}{h':Heap}{kvs:List (Key×V)}{vs:List (Key×Value)}(z:kvs.length<=sizeLine)(hd:(a==sysModules)=false)(rel:KV kvs vs)(dd:h'.DictOf (bC P w) a vs):
  ObjOk P w H' h' a (.dK kvs):=zAB z hd (zn vs rel dd)
theorem v9{H':Hp}{Q:Unit->Shared->Prop}(hu:A.units+1<cLine)(I:Inv X pins σ H s)(g:DPut H a y v H')(ry:RelV y u)(rv:RelV v r)(h:∀s',Inv X pins σ H' s'->Q () s'):
  wpAny (model X.prog X.w) A (setItem (.ref a) u r) Q E s:=by
 rcases g with ⟨kvs,k,e,ey,l,eH⟩ | ⟨kvs,k,b,e,ey,eb,l,eH⟩
 ·subst ey eH;obtain ⟨z,hd,vs,rel,dd⟩:=Cu I.hok e;have hz:vs.length<=sizeLine:=by rw [<- rel.length];exact z
  have hl:(bv kvs k v).length<=sizeLine:=by have:=cT kvs k v;omega
  refine wpAny_setItem_pairs (hsz:=hz) (lV ry) dd fun h' dd' hs=>h _ ?_;have he:∃q,h'.get? a=some q:=let ⟨q,_,_,hq,_⟩:=dd';⟨q,hq⟩;exact iz I (by rw [e];exact True.intro) hs he (qV hl hd (rel.put k rv) dd')
 ·subst ey eH
  cases (show u=Value.ref b from ry)
  obtain ⟨z,hd,xs,rel,dd⟩:=xo I.hok e;have hz:xs.length<=sizeLine:=by rw [<- Paired.length rel];exact z
  have hl:(bv kvs k v).length<=sizeLine:=by have:=cT kvs k v;omega
  refine wpAny_setItem_heap (hsz:=hz) (tupleKind_room_in1 hu) (j7 I.hok eb) dd fun h' dd' hs=>h _ ?_;obtain ⟨q,es,ep,hq,h2,h3,h4,_,h5⟩:=dd';refine iz I (by rw [e];exact True.intro) hs ⟨q,hq⟩ (zAB hl hd (zn _ ((rel.put k eb rv).keeps fun c ys ec=>?_) (zAL q es ep hq h2 h3 h4 h5)));rw [ao (bw ec e (fun z=>nomatch z))];exact ec
end
section
variable {X:Cx} {pins:List (Addr×Obj)} {σ:St} {H:Hp} {s:Shared} {a:Addr} {kvs:List (Key×V)} {k:Key} {u:Value} {A:Around} {E:Value->Shared->Prop}
end
def GL(i:Expr):Prop:=∀ov iv,subscripted i false ov iv=operate [ov,iv] (getItem ov iv)
theorem C8{prog:Program}{w:World}{A:Around}{E:Value->Shared->Prop}{s:Shared}{env:Env}{value slice:Expr}{pos:Pos}{T id:String}{Q:Value->Shared->Prop}
  (hl:typeLookup (.type T) "__getitem__"=pure (some (.builtin id))) (hs:GL slice)
  (h:wpAny (model prog w) A (eval value env) (fun o s₁=>wpAny (model prog w) A (eval slice env) (fun i s₂=>s₂.TypeIs o T/\wpAny (model prog w) A (getItem o i) Q E s₂) E s₁) E s) :
  wpAny (model prog w) A (eval (.Subscript value slice pos) env) Q E s:=by
 refine Subscript_ (wpAny_mono h (fun o s₁ h₁=>wpAny_mono h₁ (fun i s₂ h₂=>?_) fun _ _ x=>x) fun _ _ x=>x);obtain ⟨hT,h₂⟩:=h₂;unfold subscriptTail;refine wpAny_bind ?_;rw [getitemInPython_of_ne hT.not_modules];refine wpAny_bind (wpAny_specialOf hT hl ?_);have fin:wpAny (model prog w) A (subscripted slice false o i) (fun r s₃=>wpAny (model prog w) A (letTemporaryGo value o r >>= fun _=>pure r) Q E s₃) E s₂:=by rw [hs o i];exact wpAny_operating (wpAny_mono h₂ (fun r s₃ h₃=>wpAny_bind (wpAny_letTemporaryGo (wpAny_pure h₃))) fun _ _ x=>x)
 first
  |exact wpAny_pure (wpAny_bind fin)
  |exact wpAny_bind (wpAny_pure (wpAny_bind fin))
  |exact wpAny_bind fin
theorem oQ{X:Cx}{pins:List (Addr×Obj)}{σ:St}{H:Hp}{s:Shared}{a:Addr}{y:V}{o:Option V}(I:Inv X pins σ H s)(g:DGet H a y o):s.TypeIs (.ref a) "dict":=by
 rcases g with ⟨kvs,k,e,_,_⟩ | ⟨kvs,k,b,e,_,_,_⟩
 ·obtain ⟨_,_,vs,_,dd⟩:=gX I.hok e;exact dd.typeIs
 ·obtain ⟨_,_,xs,_,dd⟩:=oV I.hok e;exact dd.typeIs
def DL(td ty:TE):TE:=fun σ H Q=>td σ H fun x H1=>ty σ H1 fun y H2=>∃a v,x=.ref a/\DGet H2 a y (some v)/\Q v H2
def uA(ty td:TE):TE:=fun σ H Q=>ty σ H fun y H1=>td σ H1 fun x H2=>∃a o,x=.ref a/\DGet H2 a y o/\Q (.bl (!o.isSome)) H2
def zj(td ty tv:TE):TS:=fun D σ H=>tv σ H fun v H1=>td σ H1 fun x H2=>ty σ H2 fun y H3=>∃a H4,x=.ref a/\DPut H3 a y v H4/\D.nx σ H4
section
variable {X:Cx} {o i e value:Expr} {pos pos' tpos:Pos} {td ty tv:TE}
theorem BF(hu:X.A.units+1<cLine)(ho:PE X o td)(hi:PE X i ty)(hv:PE X value tv)(hs:swapsWith value (some (.Subscript o i pos')) pos.line X.env=pure false):
  PS X (.Assign [.Subscript o i pos'] value pos) (zj td ty tv):=by
 intro pins s σ H D I h;refine wpAny_Assign_Subscript (thn (hv pins s σ H _ I h) fun r s1 ⟨v,H1,I1,rv,q1⟩=>thn (ho pins s1 σ H1 _ I1 q1) fun u s2 ⟨x,H2,I2,rx,q2⟩=>thn (hi pins s2 σ H2 _ I2 q2) fun iv s3 hhx=>?_) hs;obtain ⟨y,H3,I3,ry,a,H4,ex,g,q3⟩:=hhx;subst ex;obtain rfl:u=Value.ref a:=rx;exact v9 hu I3 g ry rv fun s4 I4=>zAD σ H4 I4 q3
end
theorem oR{P:Program}{w:World}{H:Hp}(h:Heap)(hb:sysModules<h.objs.size):ObjOk P w H (h.push {cls:=.type "dict",data:=.dict #[]}) h.objs.size (.dK []):=
 (zAB (cm _) (beq_eq_false_iff_ne.mpr (Ne.symm (cx hb))) (zn ([]) .nil (Heap.DictOf.new h)))
theorem oU{P:Program}{w:World}{H:Hp}(h:Heap)(hb:sysModules<h.objs.size):ObjOk P w H (h.push {cls:=.type "dict",data:=.dict #[]}) h.objs.size (.dT []):=
 (zAB (cm _) (beq_eq_false_iff_ne.mpr (Ne.symm (cx hb))) (zn ([]) .nil (zAL _ (#[]) 0 (dA _ rfl) (zAB rfl rfl rfl) rfl rfl Ay)))
def zz:TE:=fun _ H Q=>∀p,H p=none->Q (.ref p) (upd H p (.dK []))
def zA:TE:=fun _ H Q=>∀p,H p=none->Q (.ref p) (upd H p (.dT []))
section
variable {X:Cx} {pos:Pos}
end
def ie:List (TE×TE)->St->Hp->(List (V×V)->Hp->Prop)->Prop
 | [],_,H,Q=>Q [] H
 | (tk,tv)::r,σ,H,Q=>tk σ H fun x H1=>tv σ H1 fun y H2=>ie r σ H2 fun ps H3=>Q ((x,y)::ps) H3
abbrev VV:List (V×V)->List (Value×Value)->Prop:=Paired fun p q=>RelV p.1 q.1/\RelV p.2 q.2
def PPs(X:Cx)(pos:Pos)(keys:List (Option Expr))(values:List Expr)(trs:List (TE×TE)):Prop:=
 ∀(pins:List (Addr×Obj)) (s:Shared) (σ:St) (H:Hp) (Q:List (V×V)->Hp->Prop),Inv X pins σ H s->ie trs σ H Q->
  wpAny (model X.prog X.w) X.A (evalPairs (pairTrees keys values X.env pos)) (fun vs s'=>∃ps H',Inv X pins σ H' s'/\VV ps vs/\Q ps H') X.xe s
theorem BE{X:Cx}{pos:Pos}:PPs X pos [] [] []:=fun pins s σ H Q I h=>pairTrees_nil_walk (zAA ([]) H I .nil h)
theorem ko{X:Cx}{pos:Pos}{k v:Expr}{ks:List (Option Expr)}{vs:List Expr}{tk tv:TE}{trs:List (TE×TE)}(hk:PE X k tk)(hv:PE X v tv)(hr:PPs X pos ks vs trs):
  PPs X pos (some k::ks) (v::vs) ((tk,tv)::trs):=fun pins s σ H Q I h=>
 pairTrees_cons_walk (thn (hk pins s σ H _ I h) fun u s1 ⟨x,H1,I1,rx,q1⟩=>thn (hv pins s1 σ H1 _ I1 q1) fun w2 s2 ⟨y,H2,I2,ry,q2⟩=>thn (hr pins s2 σ H2 _ I2 q2) fun ws s3 ⟨ps,H3,I3,rel,q3⟩=>zAA ((x,y)::ps) H3 I3 (.cons ⟨rx,ry⟩ rel) q3)
def ib(kvs more:List (Key×V)):List (Key×V):=more.foldl (fun acc kv=>bv acc kv.1 kv.2) kvs
theorem KV.merge:∀{more:List (Key×V)} {rs:List (Key×Value)} {kvs:List (Key×V)} {vs:List (Key×Value)},KV more rs->KV kvs vs->KV (ib kvs more) (merged vs rs):=by
 intro more rs kvs vs r;unfold KV at r
 induction r generalizing kvs vs with
 |nil=>intro q;exact q
 | @cons p q ps qs h t ih=>
  intro r0;have e:KV (bv kvs p.1 p.2) (stored vs q.1 q.2):=by have:=r0.put p.1 h.2;rw [<- h.1];exact this
  exact ih e
theorem gZ:∀(more kvs:List (Key×V)),(ib kvs more).length<=kvs.length+more.length
 | [],kvs=>by show kvs.length<=kvs.length+0;omega
 |p::r,kvs=>by have h1:=gZ r (bv kvs p.1 p.2);have h2:=cT kvs p.1 p.2;show (ib (bv kvs p.1 p.2) r).length<=_;rw [cJ];omega
theorem jS{P:Program}{w:World}:∀{kvs:List (Key×V)} {ws:List (Value×Value)},VV (kvs.map fun kv=>(kV kv.1,kv.2)) ws->∃rs,Carries (bC P w) ws rs/\KV kvs rs
 | [],_,r=>by rw [A3] at r;cases r;exact zn ([]) True.intro .nil
 |p::kvs,_,r=>by
  rw [d9] at r
  cases r with
  | @cons a b as bs h t=>obtain ⟨rs,c,q⟩:=jS (P:=P) (w:=w) t;obtain ⟨b1,b2⟩:=b;exact zn ((p.1,b2)::rs) (zAB (lV h.1) rfl c) (.cons ⟨rfl,h.2⟩ q)
def DM(trs:List (TE×TE)):TE:=fun σ H Q=>∀p,H p=none->ie trs σ (upd H p (.dK [])) fun ps H2=>H2 p=some (.dK [])/\∃kvs:List (Key×V),ps=kvs.map (fun kv=>(kV kv.1,kv.2))/\kvs.length<=15/\Q (.ref p) (upd H2 p (.dK (ib [] kvs)))
structure M1(X:Cx)(o:Expr)(m:Str)(apos:Pos)(e:Expr)(cpos:Pos):Prop where
 base:attributeBase o m X.env (eval o X.env)=eval o X.env
 few:((backTo cpos (starEach [e] X.env)).all (fun x=>!x.1)&&(backToKw cpos (keywordEach [] X.env)).all (fun x=>x.1.isSome)
  && decide (([e]:List Expr).length+([]:List Keyword).length+(if ([]:List Keyword).isEmpty then 0 else 1)<30))=true
 line:(apos.endLine==cpos.line)=true
 trees:backTo cpos (starEach [e] X.env)=[(false,eval e X.env)]
def IsD(H:Hp)(a:Addr):Prop:=(∃kvs,Rd H a (.dK kvs))\/∃kvs,Rd H a (.dT kvs)
theorem Em{X:Cx}{pins:List (Addr×Obj)}{σ:St}{H:Hp}{s:Shared}{a:Addr}(I:Inv X pins σ H s)(d:IsD H a):
  s.TypeIs (.ref a) "dict"/\(∀b,Value.ref a=.ref b->∃ob,s.heap.get? b=some ob/\ob.dict=none)/\(a==sysModules)=false:=by
 rcases d with ⟨kvs,e⟩ | ⟨kvs,e⟩
 ·obtain ⟨_,hd,vs,_,dd⟩:=gX I.hok e;refine zAB dd.typeIs (fun b q=>?_) hd
  cases q
  obtain ⟨ob,_,_,h1,h2,_⟩:=dd;exact zn ob h1 h2.2.1
 ·obtain ⟨_,hd,xs,_,dd⟩:=oV I.hok e;refine zAB dd.typeIs (fun b q=>?_) hd
  cases q
  obtain ⟨ob,_,_,h1,h2,_⟩:=dd;exact zn ob h1 h2.2.1
section
variable {X:Cx} {pins:List (Addr×Obj)} {σ:St} {H:Hp} {s:Shared} {a:Addr} {y d:V} {u r:Value} {o:Option V} {A:Around} {E:Value->Shared->Prop}
end
section
variable {X:Cx} {o e f:Expr} {apos cpos:Pos} {td ty tx:TE}
end
section
variable {X:Cx} {pins:List (Addr×Obj)} {σ:St} {H:Hp} {s:Shared} {a:Addr} {kvs:List (Key×V)} {A:Around} {E:Value->Shared->Prop}
end
section
variable {X:Cx} {pins:List (Addr×Obj)} {σ:St} {H:Hp} {s:Shared} {a:Addr} {y:V} {u:Value} {A:Around} {E:Value->Shared->Prop}
end
end L2
end
namespace Att
open PySem PySem.W PySem.Calls PyProof.Rows
theorem jw{P:Params}{h:Heap}:∀(ns:List Int)(vs:List Value),WellAll P h vs (ns.map WData.int)->IntsAre vs ns:=by
 intro ns
 induction ns with
 |nil=>
  intro vs w;rw [A3] at w
  cases w
  exact .nil
 |cons n ns ih=>
  intro vs w;rw [d9] at w
  cases w with
  |cons a b=>
   cases a
   exact .cons _ _ (ih _ b)
theorem wj{l:OpenLaw}{n:Nat}(hn:l.most=some n){P:Params}{h:Heap}{args:List WData}{vals:List Value}
  (hpre:l.row.toRowW.claim.pre args=true) (hwl:WellAll P h vals args) :
  ∃a vs ns,vals=[Value.ref a]/\args=[WData.list (ns.map WData.int)]/\h.get? a=some {cls:=.type "list",data:=.seq vs.toArray}/\IntsAre vs ns/\ns.length<=n:=by
 have hsh:WShape.hasAll [] args [.list .int]=true:=(pre_splitW hpre).1;have hc:l.pre.holds [] {args:=args}=true:=(pre_splitW hpre).2;obtain ⟨d,r,rfl,h1,h2⟩:=hasAllW_cons hsh;obtain rfl:=hasAllW_nil h2;obtain ⟨xs,rfl,h3⟩:=hasW_list h1;obtain ⟨ns,rfl⟩:=items_int h3;have hlen:ns.length<=n:=by
  unfold OpenLaw.pre at hc;have h4:(WTm.not (.lt (.lit (.int (n:Int))) (.len (.arg 0)))).holds [] {args:=[.list (ns.map .int)]}=true:=by have h4:=(holds_andW hc).1;rw [hn] at h4;exact h4
  have h5:=condW_of h4 (w_not (w_lt w_lit (w_len_list (w_arg rfl))));rw [zq1] at h5;refine Nat.le_of_not_lt fun q=>?_;have q':(n:Int)<((ns.length:Nat):Int):=by omega
  first
   | (rw [decide_eq_true q'] at h5;exact absurd h5 Jx)
   | (simp at h5;omega)
 cases hwl with
 |cons w1 w2=>
  cases w2
  cases w1 with
  |list ho hall=>exact zAL _ _ ns rfl rfl ho (jw ns _ hall) hlen
theorem vS(l:OpenLaw)(args:List WData):l.row.toRowW.claim.post args (.bool true) args=true:=
 postW_of (r:=l.row.toRowW) (X:=(true==true))
  (show WShape.has [] (.bool true) .bool=true by first | rfl | decide | simp [WShape.has,WShape.arms,WShape.armsAll])
  (show (WTm.eq .res (.lit (.bool true))).value [] {args:=args,res:=some (.bool true),after:=args}=some (.bool (true==true)) from w_eq_bool (w_res rfl) w_lit) rfl
section
variable {prog:Program} {w:World} {A:Around} {E:Value->Shared->Prop} {s:Shared} {K:Frag}
end
end Att
namespace L2
open PySem PySem.Spec PyProof.Rows
theorem je:∀{vs:List Value} {ns:List Int},IntsAre vs ns->Vals (ns.map V.int) vs
 |_,_,.nil=>.nil
 |_,_,.cons n t h=>.cons ⟨t,rfl⟩ (je h)
def E2(H:Hp):Prop:=∀b,H b=none\/∃o xs,H b=some (.frz o (.lst xs))
theorem xK{P:Program}{w:World}{K:W.Frag}{mg mb:Str->Option Value}{CX:CXT}{k:Nat}{fa a:Addr}{fd:FuncData}{x:Str}{sp:Sp}{s₁:Shared}{vs:List Value}{ns:List Int}
  (KX:K.In s₁.heap) (hns:s₁.heap.Ns mainGlobals mg) (hb:s₁.heap.Ns builtinsNs mb) (hbb:∀x:Str,x≠"__name__"->mb x=bootBuiltins x) (hlim:s₁.heap.NoLimit) (hg:s₁.gens=#[])
  (ha:s₁.heap.get? a=some {cls:=.type "list",data:=.seq vs.toArray}) (hi:IntsAre vs ns) (hl:ns.length<=sizeLine) (hr:Room k callerA)
  (F:∀base:Heap,K.In base->base.Ns mainGlobals mg->FnOk P w K mg base CX k fa fd [x] sp) (hbind:∀(s:Shared)(u:Value),BindsTo s fd ⟨[u],[]⟩ [(x,u)])
  (hsp:∀H:Hp,E2 H->SqL K H a (ns.map V.int)->sp [.ref a] H (fun v _=>v=.bl true) fun _ _ _=>False)
  (hCX:∀H e s',CX [] H s₁ (fun _ _ _=>False) e s'->False) :
  codeAny (model P w) callerA (.call (.ref fa) ⟨[.ref a],[]⟩) (fun r s'=>r=.ok (.ret (.bool true))/\OldK s₁.heap s'.heap/\s'.os=s₁.os/\AllBare s'.gens) s₁:=by
 have rv:=je hi;have lenV:=hi.length;have core:∀H:Hp,E2 H->SqL K H a (ns.map V.int)->HOk P w H s₁.heap->(∀b,H b≠none->b=a)->(H a≠none->K.lookup a=none)->
   codeAny (model P w) callerA (.call (.ref fa) ⟨[.ref a],[]⟩) (fun r s'=>r=.ok (.ret (.bool true))/\OldK s₁.heap s'.heap/\s'.os=s₁.os/\AllBare s'.gens) s₁:=by
  intro H hO hS hok hA hK;have base_of:∀{b:Addr} {o:Obj},s₁.heap.get? b=some o->H b=none->(mR s₁.heap H).get? b=some o:=fun e n=>xA e n;have noA:∀{b:Addr} {o:Obj} {es:Array DictEntry} {ep:Nat},s₁.heap.get? b=some o->o.data=.dict es ep->H b=none:=fun {b o es ep} e d=>by
   cases q:H b with
   |none=>rfl
   |some u=>
    have e':b=a:=hA b (by rw [q];simp);subst e';rw [ha] at e;cases e;have d':Data.seq vs.toArray _=Data.dict es ep:=d
    cases d'
  have nsK:∀{b:Addr} {m:Str->Option Value},s₁.heap.Ns b m->(mR s₁.heap H).Ns b m:=fun {b m} ⟨o,es,ep,e,d,r⟩=>zAN o es ep (base_of e (noA e d)) d r
  have hKb:K.In (mR s₁.heap H):=fun b o e=>base_of (KX b o e) (by
   cases q:H b with
   |none=>rfl
   |some u=>have e':b=a:=hA b (by rw [q];simp);subst e';rw [hK (by rw [q];simp)] at e;cases e)
  have hM:Mod K mg (mR s₁.heap H):=⟨hKb,nsK hns,zn mb (nsK hb) hbb,let ⟨mc,h1,h2⟩:=hlim;(zn mc (nsK h1) h2)⟩
  have e0:Env0 P w K mg (mR s₁.heap H) callerA [] s₁ H:=⟨rfl,hM,fun b o e=>Bg e,wI (vm _ _),trivial,fun b hb=>absurd (show b∈([]:List Addr) from hb) Jz,hok,.of_eq hg⟩
  refine codeAny_mono ((F _ hKb (nsK hns)).run callerA [] s₁ H ⟨[.ref a],[]⟩ [.ref a] [.ref a] _ _ hr e0 (hbind s₁ (.ref a)) (.cons rfl .nil) (hsp H hO hS)) fun r s' h=>?_
  cases r with
  |error e=>exact (hCX H e s' h).elim
  |ok fl=>
   cases fl with
   |next=>exact False.elim h
   |brk=>exact False.elim h
   |cont=>exact False.elim h
   |ret u=>
    obtain ⟨v,H',os,bare,un,hok',r',q⟩:=h;have q':v=.bl true:=q;subst q';obtain rfl:u=Value.bool true:=r';refine zAG rfl (OldK.of_keep fun b o e=>?_) os bare
    cases q:H b with
    |none=>exact un.keep b o e q (by intro z;exact absurd (show b∈([]:List Addr) from z) Jz) Jz
    |some u=>
     rcases hO b with z | ⟨ob,xs,z⟩
     ·rw [q] at z;cases z
     ·have z2:=un.frzs b ob _ z;obtain ⟨e1,_⟩:=hok b _ z;obtain ⟨e2,_⟩:=hok' b _ z2;rw [e] at e1;cases e1;exact e2
 cases hk:K.lookup a with
 |some o=>
  have e:=KX a o hk;rw [ha] at e
  cases e
  refine core (fun _=>none) (fun _=>.inl rfl) (.inr (zAH _ vs.toArray _ (zAQ hk rfl rfl rfl (by rw [fI,lenV];exact hl) (by simpa using rv)))) (fun b u z=>by have z':(none:Option HO)=some u:=z;cases z') (fun b z=>absurd rfl z) fun z=>absurd rfl z
 |none=>
  refine core (fun b=>if b=a then some (.frz {cls:=.type "list",data:=.seq vs.toArray} (.lst (ns.map V.int))) else none) (fun b=>?_) (.inl (.inr ⟨{cls:=.type "list",data:=.seq vs.toArray},if_pos rfl⟩)) (fun b u z=>?_) (fun b z=>?_) fun _=>hk
  ·by_cases hb:b=a
   ·exact .inr (zAJ _ _ (if_pos hb))
   ·exact .inl (if_neg hb)
  ·by_cases hb:b=a
   ·have z':=(if_pos hb).symm.trans z
    cases z'
    subst hb;exact zAB ha (by rw [zq1];exact hl) (zAD vs _ rv ha)
   ·have z':=(if_neg hb).symm.trans z
    cases z'
  ·by_cases hb:b=a
   ·exact hb
   ·exact absurd (if_neg hb) z
end L2
namespace L2
open PySem PySem.Spec PyProof.Rows
end L2
/- THE LAST THEOREM (shape;LID,My.* are yours):
   My.Adr: a structure of the addresses that your layer names (classes,functions);My.Txt K t: a structure (Prop) of the equations over K;
   My.txt_mk:{K} {implicit addresses ..} (e1:nsIn K mainGlobals "law"=some (some (.ref f))) (e2:K.lookup f=some ⟨oc,od,.func (fnOf "law" "law" params body scope dV kV doc pm an cdv ct),sl⟩) (e3:codeIn K cdv "law"=true) ..:∃t,My.Txt K t
set_option maxRecDepth 100000 in
set_option maxHeartbeats 0 in
theorem PySem.Challenge.cw_LID_holds:PySem.Challenge.rw_LID.Holds:=by
 w_on;o_law;k_head;(case hw=>w_witness2)
 k_fill
 refine L2.walk_of (l:=PySem.Challenge.rw_LID) (n:=63) (k:=40) (x:="script") (CX:=fun w=>..) (sp:=fun _=>My.sp_law) rfl Jx rfl ⟨rfl,Jx,Jx⟩ (fun w h Y=>W.kIn_of Y) ?F ?S ?C
 case F=>
  intro w mg fa h KX G hmg;have T:∃t,My.Txt (L2.KOf KX) t:=by
   dsimp only [L2.KOf]                          -- K must stand as «<heap const> w.params» for k_is;refine' My.txt_mk ?e1 ?e2 ?e3 ..
   (case e1=>W.k_is)                    -- in the order: a name->its address->its object->its parts
   (case e2=>W.k_is)
   ..
  obtain ⟨t,T⟩:=T;have e0:=hmg.symm.trans (W.mg_of KX G T.law)
  cases e0                                       -- fa is the law's own address
  exact ⟨_,fun s u=>.of_eq rfl,fun base kb nb=>My.law_fn T kb nb⟩     -- if «.of_eq rfl» comes too early: refine' ⟨_,?b,fun base kb nb=>My.law_fn T kb nb⟩;exact fun s u=>.of_eq rfl
 case S=>exact fun w H a ns hl hO hS=>..
 case C=>exact ..
(the tactic k_is has no namespace: write k_is) -/
section
open PySem PySem.Spec PyProof.Rows
namespace L2
variable {H:Hp} {f:Addr} {qual x:Str}
def bB(s:Stmt)(j:Nat):Stmt:=match s with
 | .ClassDef _ _ _ body _ _ _ _ _ _ _=>body.getD j (.Pass ⟨0,0,0,0⟩)
 |_=>.Pass ⟨0,0,0,0⟩
def dH(s:Stmt):Arguments:=match s with
 | .FunctionDef _ a _ _ _ _ _ _ _ _=>a
 |_=>{posonlyargs:=[],args:=[],vararg:=none,kwonlyargs:=[],kw_defaults:=[],kwarg:=none,defaults:=[]}
def di(s:Stmt):List Stmt:=match s with
 | .FunctionDef _ _ b _ _ _ _ _ _ _=>b
 |_=>[]
def ay(s:Stmt):Scope:=match s with
 | .FunctionDef _ _ _ _ _ _ sc _ _ _=>sc
 |_=>{kind:=.function,names:=[],isGenerator:=false,isCoroutine:=false}
abbrev CX0:CXT:=fun _ _ _ _ _ _=>False
abbrev E0:XK:=fun _ _ _=>False
theorem pK{X:Cx}:ff CX0 X E0:=fun _ _ _ _ _ _ _ h=>h.elim
structure Fun(K:W.Frag)(x qual:Str)(st:Stmt)(f:Addr)(fd:FuncData):Prop where
 ex:∃(oc:Value)(od:Option Addr)(kV doc pm:Value)(an:Option Addr)(cdv ct:Value)(osl:Array (Option Value)),
  fd=W.fnOf x qual (dH st) (di st) (ay st) .none kV doc pm an cdv ct/\K.lookup f=some ⟨oc,od,.func fd,osl⟩/\W.codeIn K cdv qual=true
 kp:W.keepIn K (.ref f)=true
section
variable {P:Program} {w:World} {K:W.Frag} {mg:Str->Option Value} {base:Heap}
theorem Fun.ok{st:Stmt}{fd:FuncData}{N ps:List Str}{k:Nat}{sp:Sp}(F:Fun K x qual st f fd)(S:aE N ps (ay st))(len:∀vs H Q E,sp vs H Q E->vs.length=ps.length)
 (hbody:∀(cdv:Value)(A:Around)(outer:List Env)(s:Shared)(H:Hp)(vs:List V)(Q:VK)(E:XK),Room k (A.deeper (envOfC qual (ay st) s.heap.objs.size f cdv))->sp vs H Q E->
 ∃t,PSs (qU CX0 P w K mg base N qual (ay st) f cdv A outer s H E).nox (di st) t/\t {nx:=fun _ H'=>Q .non H',rt:=Q} (aP N vs) H):FnOk P w K mg base CX0 (k+1) f fd ps sp:=by
 obtain ⟨oc,od,kV,doc,pm,an,cdv,ct,osl,rfl,lk,hcd⟩:=F.ex;refine GV lk hcd S len fun A outer s H vs Q E hr hsp=>?_;obtain ⟨t,h,q⟩:=hbody cdv A outer s H vs Q E hr hsp;exact zn t h.nox q
theorem Fun.binds{st:Stmt}{fd:FuncData}{ps:List Str}(F:Fun K x qual st f fd)
 (h:∀(kV doc pm:Value)(an:Option Addr)(cdv ct:Value)(us:List Value),us.length=ps.length->bindArgs (W.fnOf x qual (dH st) (di st) (ay st) .none kV doc pm an cdv ct) ⟨us,[]⟩=pure (ps.zip us)):Binds K fd ps []:=by
 obtain ⟨oc,od,kV,doc,pm,an,cdv,ct,osl,rfl,lk,hcd⟩:=F.ex;exact .all (h kV doc pm an cdv ct)
theorem mO{st:Stmt}{oc:Value}{od an:Option Addr}{osl:Array (Option Value)}{kV doc pm cdv ct:Value}(l:K.lookup f=some ⟨oc,od,.func (W.fnOf x qual (dH st) (di st) (ay st) .none kV doc pm an cdv ct),osl⟩)
 (c:W.codeIn K cdv qual=true) (k:W.keepIn K (.ref f)=true):Fun K x qual st f (W.fnOf x qual (dH st) (di st) (ay st) .none kV doc pm an cdv ct):=⟨zAV oc od kV doc pm an cdv ct osl (zAB rfl l c),k⟩
end
theorem dE{A:Around}{k:Nat}(hr:Room k A):A.units+1<cLine:=Az (Nat.add_le_add_left (by decide:1<=64) _) hr.units
section
variable {X:Cx}
end
theorem He{A B:Prop}(h:B):if false=true then A else B:=by rw [if_neg zq3];exact h
theorem IM{A B:Prop}(h:A):if true=true then A else B:=by rw [if_pos rfl];exact h
theorem xF{c A B:Prop}[Decidable c](hc:c)(h:B):if (!decide c)=true then A else B:=by rw [decide_eq_true hc];exact He h
def Same(H H':Hp):Prop:=∀b o,H b=some o->H' b=some o
theorem Same.refl(H:Hp):Same H H:=fun _ _ h=>h
theorem Same.trans{H1 H2:Hp}(a:Same H H1)(b:Same H1 H2):Same H H2:=fun c o h=>b c o (a c o h)
theorem Same.free{H':Hp}(e:Same H H'){l:Addr}(h:H' l=Option.none):H l=Option.none:=by
 cases q:H l with
 |none=>rfl
 |some o=>
  rw [e l o q] at h
  cases h
theorem Same.seq{K:W.Frag}{H':Hp}{a:Addr}{xs:List V}(e:Same H H')(h:SqL K H a xs):SqL K H' a xs:=by
 rcases h with (h | ⟨o,h⟩) | h
 ·exact .inl (.inl (e _ _ h))
 ·exact .inl (.inr ⟨o,e _ _ h⟩)
 ·exact .inr h
end L2
namespace L2
section
variable {X:Cx}
end
section
variable {κ:Type} [DecidableEq κ]
theorem zL{kvs:List (κ×V)}{k:κ}(h:bE kvs k=none):¬k∈kvs.map (·.1):=by intro m;obtain ⟨p,hp,e⟩:=zq23.mp m;have q:(kvs.any fun kv=>decide (kv.1=k))=true:=zq78.mpr (zn p hp (decide_eq_true e));rw [cM,h] at q;exact absurd q Jz
theorem tG:∀{l:List κ} {k:κ},l.Nodup->¬k∈l->(l++[k]).Nodup
 | [],k,_,_=>by simp
 |a::r,k,h,hk=>by
  obtain ⟨h1,h2⟩:=zq25.mp h;show (a::(r++[k])).Nodup;refine zq25.mpr ⟨fun m=>?_,tG h2 fun m=>hk (zq5.mpr (Or.inr m))⟩;rcases zq11.mp m with q | q
  ·exact h1 q
  ·exact hk (zq5.mpr (Or.inl (zq2.mp q).symm))
theorem Bd{kvs:List (κ×V)}{k:κ}(v:V)(hn:(kvs.map (·.1)).Nodup)(h:bE kvs k=none):((bv kvs k v).map (·.1)).Nodup:=by rw [pM v h,cy];exact tG hn (zL h)
end
end L2
namespace L2
section
variable {X:Cx}
def CDivB(i j:Int):Prop:=0<j/\j.natAbs.log2<9000
theorem yh:OpR X (binaryOp .FloorDiv) (rI CDivB fun i j=>.int (i / j)):=opI fun i j _ _ _ _ _ hc q=>by have h1:(0:Int)<j:=hc.1;exact floordiv_int Jy (by rw [Int.fdiv_eq_ediv_of_nonneg i Jy];exact q) (.inl (PyProof.noPylong_of_log2 hc.2))
theorem Bw:OpR X (binaryOp .Mult) (rI IntMulOk fun i j=>.int (i * j)):=opI fun _ _ _ _ _ _ _ hc q=>mul_int q hc
theorem CDivB.small{i j:Int}(h:0<j)(h2:j<1073741824):CDivB i j:=⟨h,by have h3:j.natAbs.log2<30:=(Nat.log2_lt Jy).mpr Jy;omega⟩
end
theorem aB{c A B:Prop}[Decidable c](h1:c->A)(h2:¬c->B):if decide c=true then A else B:=by
 by_cases h:c
 ·rw [if_pos (decide_eq_true h)];exact h1 h
 ·rw [if_neg (fun q=>h (of_decide_eq_true q))];exact h2 h
theorem fS{c A B:Prop}[Decidable c](h1:¬c->A)(h2:c->B):if (!decide c)=true then A else B:=by
 by_cases h:c
 ·rw [decide_eq_true h];exact He (h2 h)
 ·rw [decide_eq_false h];exact IM (h1 h)
structure bu(K:W.Frag)(mg:Str->Option Value)(x:Str)(st:Stmt)(ps:List Str)(f:Addr)(fd:FuncData):Prop where
 F:Fun K x x st f fd
 B:Binds K fd ps []
 M:mg x=some (.ref f)
theorem ym{X:Cx}{k:Nat}{f:Addr}{fd:FuncData}{ps:List Str}{sp:Sp}{x:Str}{st:Stmt}{p pos:Pos}{e:Expr}{es:List Expr}{t:TA}(D:bu X.K X.mg x st ps f fd)(G:FnOk X.prog X.w X.K X.mg X.base CX0 k f fd ps sp)(hr:Room k X.A)
  (ha:PA X (e::es) t) (hg:Gl X x:=by rfl) (hdb:(x==("__debug__":Str))=false:=by decide) (he:starEach (e::es) X.env=(false,eval e X.env)::starEach es X.env:=by rfl) (hpl:(backTo pos (starEach es X.env)).any (·.1)=false:=by rfl) :
  PE X (.Call (.Name x p) (e::es) [] pos) (qr sp [] E0 t):=BA G hr hg D.M D.F.kp D.B .nil pK ha hdb he hpl
def Ite(K:W.Frag)(a:Addr):It:=
  ⟨fun i H=>∃xs x,SqL K H a xs/\xs[i]?=some x,
   fun i H x H'=>∃p y,x=.ref p/\H p=none/\H'=upd H p (.tup [.int i,y])/\∀xs,SqL K H a xs->xs[i]?=some y,
   fun i H=>∃xs,SqL K H a xs/\xs.length<=i⟩
theorem ww{P:Program}{w:World}{K:W.Frag}{elts:List Expr}{k0:Nat}{pos0:Pos}(a e it:Addr)(hei:e≠it):
  kR P w K (.Tuple elts k0 pos0) (Ite K a) [e,it] e (fun i h=>(∃old,IsEnum h e it i old)/\h.IsListIter it a i) where
 mem:=by simp
 obj:=fun i h ⟨⟨old,he⟩,hit⟩ b hb=>by
  rcases zq5.mp hb with rfl | hb
  ·exact ⟨_,he,fun v z=>by
    have z':Data.fields _=Data.cell v:=z
    cases z'⟩
  ·have e':b=it:=by simpa using hb
   subst e';obtain ⟨o,q,c,d⟩:=hit;exact zn o q fun v z=>by rw [d] at z;cases z
 keep:=fun i h h' ⟨⟨old,he⟩,hit⟩ k=>⟨⟨old,k e Jz _ he⟩,hit.at fun o q=>k it Jz o q⟩
 item:=by
  intro X hP hw hK hc i pins s σ H E I hf st hg;subst hP hw hK;obtain ⟨xs,x,hq,hx⟩:=hg;obtain ⟨its,rv,p,hz⟩:=I.list hq;obtain ⟨u,hu,ru⟩:=rv.get hx;obtain ⟨⟨old,he⟩,hit⟩:=st;obtain ⟨f0,f1,f2,f3,f4,f5⟩:=hf e Jz;obtain ⟨g0,g1,g2,g3,g4,g5⟩:=hf it Jz;refine wpAny_pyNext_enum_item he hit p.isList (x:=u) (by simpa using hu) hei fun h1 ho hit1 hT hsz hk=>?_;refine zn _ rfl (wpAny_letOwnedTupleGo_enum ho fun h2 he2 hs2=>?_);replace hs2:Heap.SameBut e h1 h2:=hs2;have helt:e<s.heap.objs.size:=zq7 he;have hk2:∀b o,b≠e->b≠it->s.heap.get? b=some o->h2.get? b=some o:=fun b o b1 b2 q=>(hs2.2 b b1).trans (hk b o b1 b2 q);have hT2:h2.get? s.heap.objs.size=some {cls:=.type "tuple",data:=.seq #[.int i s.toks,u]}:=(hs2.2 _ (lu helt)).trans hT;have hn:H s.heap.objs.size=none:=I.hok.fresh (zq0 _);have nE:∀b v,H b=some v->b≠e:=fun b v q z=>by rw [z,f0] at q;cases q
  have nI:∀b v,H b=some v->b≠it:=fun b v q z=>by rw [z,g0] at q;cases q
  have ok2:HOk X.prog X.w H h2:=fun b v q=>(I.hok b v q).stay (fun c v' hc r=>by
   rcases hc with z | z
   ·exact hk2 c v' (by rw [z];exact nE b v q) (by rw [z];exact nI b v q) r
   ·exact hk2 c v' (nE c _ z) (nI c _ z) r) (fun _ r=>r) fun _ _ r=>r
  have ok3:HOk X.prog X.w (upd H s.heap.objs.size (.tup [.int i,x])) h2:=fun b v q=>by
   by_cases hb:b=s.heap.objs.size
   ·subst hb;rw [ac] at q
    cases q
    exact ⟨by show 2<=sizeLine;decide,zn ([.int i s.toks,u]) (.cons ⟨_,rfl⟩ (.cons ru .nil)) (zAC _ hT2 rfl ⟨_,rfl⟩)⟩
   ·rw [ao hb] at q;exact (ok2 b v q).stay (fun c v' _ r=>r) (fun c r=>by rw [ao (am r hn)];exact r) fun c ys r=>by rw [ao (am r hn)];exact r
  have nlt:∀{b:Addr} {o:Obj},s.heap.get? b=some o->b≠s.heap.objs.size:=fun q=>cx (zq7 q);have I2:Inv X pins σ (upd H s.heap.objs.size (.tup [.int i,x])) {s with heap:=h2,toks:=s.toks+1}:=
   I.step (g':=s.gens) (d':=s.drawn) (ch:=[e,it]) (fun b hb=>by
     rcases zq5.mp hb with rfl | hb
     ·exact zAG f3 f1 f4 f5
     ·have e':b=it:=by simpa using hb
      subst e';exact zAG g3 g1 g4 g5)
    (fun b o _ _ hc q _=>hk2 b o (fun z=>hc (by simp [z])) (fun z=>hc (by simp [z])) q)
    (fun b o _ _ hc q _=>⟨o.slots,hk2 b o (fun z=>hc (by simp [z])) (fun z=>hc (by simp [z])) q⟩)
    (fun b o _ q n=>by rw [ao (nlt q)];exact n)
    (fun b o hc q=>⟨o,hk2 b o (fun z=>hc (by simp [z])) (fun z=>hc (by simp [z])) q⟩)
    (fun b ys q=>by rw [ao (am q hn)];exact q) (fun b o v q=>by rw [ao (am q hn)];exact q) (fun b ps q=>⟨#[],by rw [ao (am q hn),q];simp⟩)
    (fun m ⟨o,es,ep,hm,r⟩=>zAK o es ep (hk2 _ o (Ne.symm f1) (Ne.symm g1) hm) r) ok3 I.bare
  refine zAT (.ref s.heap.objs.size) _ I2 rfl (zAE _ x rfl hn rfl fun ys hy=>by rw [I.list_inj hy hq];exact hx) ⟨⟨_,by simpa using he2⟩,hit1.at fun o y=>(hs2.2 it hei.symm).trans y⟩ fun b hb=>?_;rcases zq5.mp hb with rfl | hb
  ·rw [ao (cx helt)];exact f0
  ·have e':b=it:=by simpa using hb
   subst e';obtain ⟨o,q,_⟩:=hit;rw [ao (nlt q)];exact g0
 done:=by intro X hP hw hK hc i pins s σ H E I hf st hg;subst hP hw hK;obtain ⟨xs,hq,hx⟩:=hg;obtain ⟨its,rv,p,hz⟩:=I.list hq;obtain ⟨⟨old,he⟩,hit⟩:=st;obtain ⟨g0,g1,g2,g3,g4,g5⟩:=hf it Jz;have hl:=rv.length;exact wpAny_pyNext_enum_end (I.ok.hd hc) he hit p.isList (by simp;omega) fun h' eb=>⟨rfl,I.turned (t':=s.toks) (it:=it) (fun b o hb q=>eb b o hb q) g0 g1 g3 g4 g5⟩
 self:=fun _ _ _ _ _ ⟨⟨_,he⟩,_⟩ h=>wpAny_pyIter_enum he h
def xD(K:W.Frag)(ta:TA):TI:=fun σ H R=>ta σ H fun vs H1=>∃a,vs=[.ref a]/\(∃xs,SqL K H1 a xs)/\R (Ite K a) H1
theorem BD{X:Cx}{a:Expr}{ta:TA}{p pos pos0:Pos}{elts:List Expr}{k0:Nat}(hm:X.mg "enumerate"=none) (ha:PA X [a] ta) (hg:Gl X "enumerate":=by rfl) (hs:starEach [a] X.env=[(false,eval a X.env)]:=by rfl) :
  PI X (.Tuple elts k0 pos0) (.Call (.Name "enumerate" p) [a] [] pos) (xD X.K ta):=by
 intro pins s σ H R I h;refine Call_ (dZ I hg hm boot_enumerate (PyProof.Rows.callWith_type1 (thn (ha pos pins s σ H _ I h) fun us s1 hhx=>?_) hs rfl));obtain ⟨vs,H1,I1,r1,q1⟩:=hhx;obtain ⟨l,e,⟨xs,hq⟩,q⟩:=q1;subst e
 cases r1 with
 |cons r rr=>
  cases rr
  cases r
  obtain ⟨its,rv,pl,hz⟩:=I1.list hq;refine call_enumerate_list pl.isList fun h' he hit hsz hk=>?_;refine wpAny_pyIter_enum he ?_;have I2:Inv X pins σ H1 {s1 with heap:=h'}:=I1.kept (t':=s1.toks) hk;refine zAW (s1.heap.objs.size+1) ([s1.heap.objs.size+1,s1.heap.objs.size]) _ _ H1 rfl I2 (ww l _ _ (Nat.succ_ne_self _)) ⟨⟨_,he⟩,hit⟩ (fun b hb=>?_) q;have hle:s1.heap.objs.size<=b:=by
   rcases zq5.mp hb with rfl | hb
   ·exact Aw _
   ·rw [zq2.mp hb];exact zq0 _
  exact I1.fpOk hle (I1.hok.fresh hle)
theorem xr{K:W.Frag}{a:Addr}{xs:List V}{g:TG}{tb:TS}{D:dm}{σ:St}{H:Hp}(Pv:Nat->St->Hp->Prop)(h0:Pv 0 σ H)(hl:∀i σ H,i<=xs.length->Pv i σ H->SqL K H a xs)
  (hs:∀(i:Nat)x σ H p,xs[i]?=some x->H p=none->Pv i σ H->g (.ref p) σ (upd H p (.tup [.int i,x])) fun σ2 H2=>tb {D with nx:=Pv (i+1),ct:=Pv (i+1),bk:=D.nx} σ2 H2) (hd:∀σ H,Pv xs.length σ H->D.nx σ H) :
  ∃W:Nat->Nat->St->Hp->Prop,(∃m,W 0 m σ H)/\∀i m σ H,W i m σ H->
   ((Ite K a).stop i H/\D.nx σ H)\/((Ite K a).go i H/\∃N:St->Hp->Prop,(∀σ' H',N σ' H'->∃m',m'<m/\W (i+1) m' σ' H')/\∀x H',(Ite K a).yld i H x H'->g x σ H' fun σ2 H2=>tb {D with nx:=N,ct:=N,bk:=D.nx} σ2 H2):=by
 refine zn (fun i m σ H=>m=xs.length-i/\i<=xs.length/\Pv i σ H) (zAC xs.length Jz (cm _) h0) ?_;rintro i m σ H ⟨rfl,hi,p⟩;have q:=hl i σ H hi p
 by_cases hlt:i<xs.length
 ·refine .inr ⟨zAD xs (xs[i]) q (by simp [hlt]),zn (Pv (i+1)) (fun σ' H' p'=>zAF (xs.length-(i+1)) Jy rfl hlt p') fun x H' y=>?_⟩;obtain ⟨pp,z,ex,hn,eH,y⟩:=y;subst ex eH;exact hs i z σ H pp (y xs q) hn p
 ·have e:i=xs.length:=by omega
  subst e;exact .inl ⟨zn xs q (zq0 _),hd σ H p⟩
theorem ou{ns:List Int}(h:W.WData.layableAll [W.WData.list (ns.map W.WData.int)]=true):∀n∈ns,Builtin.Int.intBits n<=2 ^ 20:=fun n hn=>by have h1:=(W.layW_cons h).1;have h2:=W.layableW_item h1 (W.WData.int n) (zq23.mpr (zn n hn rfl));exact PyData.bits_of_layable (W.layable0_of_all (W.lay0_int h2))
section
open PySem.W PySem.Calls
theorem zO{l:W.OpenLaw}{n k:Nat}{q:Program}{loose:List Str}{XP:(Str->Option Value)->Heap->Prop}{YP:World->Heap->Prop}{d:DefRec}{K:Params->W.Frag}{CX:World->CXT}{sp:World->Sp}{x:Str}
  (hn:l.most=some n) (hn2:n<=sizeLine) (hdf:d.params.defaults=[]) (hr:Room k callerA)
  (hY:∀(w:World)(h:Heap),YP w h->(K w.params).In h)
  (F:∀(w:World)(mg:Str->Option Value)(fa:Addr)(h:Heap),(K w.params).In h->h.Ns mainGlobals mg->mg d.name=some (.ref fa)->
   ∃fd:FuncData,(∀(s:Shared)(u:Value),BindsTo s fd ⟨[u],[]⟩ [(x,u)])/\
    ∀base:Heap,(K w.params).In base->base.Ns mainGlobals mg->FnOk l.prog w (K w.params) mg base (CX w) k fa fd [x] (sp w))
  (hsp:∀(w:World)(H:Hp)(a:Addr)(ns:List Int),ns.length<=n->(∀z∈ns,Builtin.Int.intBits z<=2 ^ 20)->E2 H->SqL (K w.params) H a (ns.map V.int)->sp w [.ref a] H (fun v _=>v=.bl true) fun _ _ _=>False)
  (hCX:∀(w:World)(H:Hp)(s:Shared)(e:Value)(s':Shared),CX w [] H s (fun _ _ _=>False) e s'->False) :
  W.WalkO q loose XP YP l.row.toRowW d [] (fun f vs=>PySem.call f vs):=by
 intro w s₀ s₁ mg mb G Y fa o pm cd doc dV kV ho hd hcd hD hmg hg args vals as hpre hlay hrd hwl hlo;obtain rfl:dV=.none:=Dflts.none hD hdf;obtain rfl:kV=.none:=Dflts.noKw hD;obtain ⟨a,vs,ns,rfl,rfl,hobj,hints,hlen⟩:=Att.wj hn hpre hwl;have KX:=hY w _ Y;obtain ⟨fd,hb,hF⟩:=F w mg fa _ KX G.T.g hmg;refine enter_call (codeAny_mono (xK KX G.T.g G.T.b G.T.builtins G.T.nolimit hg hobj hints (cL hlen hn2) hr hF hb (fun H hO hS=>hsp w H a ns hlen (ou hlay) hO hS) fun H e s'=>hCX w H s₁ e s') fun r s' hq=>?_);obtain ⟨rfl,h2,h3,h4⟩:=hq;exact zAG (.inl (zAL (.bool true) (.bool true) ([]) rfl (fun _=>rfl) (.bool true) (Att.vS l _) fun _=>⟨List.Pairwise.nil,fun _ hm=>(nomatch hm)⟩)) h2 h3 h4
end
end L2
namespace L2
variable {a p:Addr} {a0 a1 a10 a11 a12 a13 a14 a15 a2 a3 a4 a5 a6 a7 a8 a9 b:Option V} {c i j:Int} {n:Nat} {r:St} {ta te:TE} {xs:List V}
section
variable {H:Hp} {Q:VK} {σ:St} {D:dm}
theorem IY{v:V}{Z:St->Hp->Prop}:bD 0 v (b::r) H Z=Z (some v::r) H:=rfl
theorem IZ{v:V}{Z:St->Hp->Prop}:bD 1 v (a0::b::r) H Z=Z (a0::some v::r) H:=rfl
theorem J0{v:V}{Z:St->Hp->Prop}:bD 2 v (a0::a1::b::r) H Z=Z (a0::a1::some v::r) H:=rfl
theorem J3{v:V}{Z:St->Hp->Prop}:bD 3 v (a0::a1::a2::b::r) H Z=Z (a0::a1::a2::some v::r) H:=rfl
theorem J4{v:V}{Z:St->Hp->Prop}:bD 4 v (a0::a1::a2::a3::b::r) H Z=Z (a0::a1::a2::a3::some v::r) H:=rfl
theorem J5{v:V}{Z:St->Hp->Prop}:bD 5 v (a0::a1::a2::a3::a4::b::r) H Z=Z (a0::a1::a2::a3::a4::some v::r) H:=rfl
theorem J6{v:V}{Z:St->Hp->Prop}:bD 6 v (a0::a1::a2::a3::a4::a5::b::r) H Z=Z (a0::a1::a2::a3::a4::a5::some v::r) H:=rfl
theorem J7{v:V}{Z:St->Hp->Prop}:bD 7 v (a0::a1::a2::a3::a4::a5::a6::b::r) H Z=Z (a0::a1::a2::a3::a4::a5::a6::some v::r) H:=rfl
theorem J8{v:V}{Z:St->Hp->Prop}:bD 8 v (a0::a1::a2::a3::a4::a5::a6::a7::b::r) H Z=Z (a0::a1::a2::a3::a4::a5::a6::a7::some v::r) H:=rfl
theorem J9{v:V}{Z:St->Hp->Prop}:bD 9 v (a0::a1::a2::a3::a4::a5::a6::a7::a8::b::r) H Z=Z (a0::a1::a2::a3::a4::a5::a6::a7::a8::some v::r) H:=rfl
theorem HI{v:V}{Z:St->Hp->Prop}:bD 10 v (a0::a1::a2::a3::a4::a5::a6::a7::a8::a9::b::r) H Z=Z (a0::a1::a2::a3::a4::a5::a6::a7::a8::a9::some v::r) H:=rfl
theorem HJ{v:V}{Z:St->Hp->Prop}:bD 11 v (a0::a1::a2::a3::a4::a5::a6::a7::a8::a9::a10::b::r) H Z=Z (a0::a1::a2::a3::a4::a5::a6::a7::a8::a9::a10::some v::r) H:=rfl
theorem HK{v:V}{Z:St->Hp->Prop}:bD 12 v (a0::a1::a2::a3::a4::a5::a6::a7::a8::a9::a10::a11::b::r) H Z=Z (a0::a1::a2::a3::a4::a5::a6::a7::a8::a9::a10::a11::some v::r) H:=rfl
theorem HL{v:V}{Z:St->Hp->Prop}:bD 13 v (a0::a1::a2::a3::a4::a5::a6::a7::a8::a9::a10::a11::a12::b::r) H Z=Z (a0::a1::a2::a3::a4::a5::a6::a7::a8::a9::a10::a11::a12::some v::r) H:=rfl
theorem HM{v:V}{Z:St->Hp->Prop}:bD 14 v (a0::a1::a2::a3::a4::a5::a6::a7::a8::a9::a10::a11::a12::a13::b::r) H Z=Z (a0::a1::a2::a3::a4::a5::a6::a7::a8::a9::a10::a11::a12::a13::some v::r) H:=rfl
theorem HN{v:V}{Z:St->Hp->Prop}:bD 15 v (a0::a1::a2::a3::a4::a5::a6::a7::a8::a9::a10::a11::a12::a13::a14::b::r) H Z=Z (a0::a1::a2::a3::a4::a5::a6::a7::a8::a9::a10::a11::a12::a13::a14::some v::r) H:=rfl
theorem HP{v:V}{Z:St->Hp->Prop}:bD 16 v (a0::a1::a2::a3::a4::a5::a6::a7::a8::a9::a10::a11::a12::a13::a14::a15::b::r) H Z=Z (a0::a1::a2::a3::a4::a5::a6::a7::a8::a9::a10::a11::a12::a13::a14::a15::some v::r) H:=rfl
theorem HQ{v:V}{Z:St->Hp->Prop}{a16:Option V}:bD 17 v (a0::a1::a2::a3::a4::a5::a6::a7::a8::a9::a10::a11::a12::a13::a14::a15::a16::b::r) H Z=Z (a0::a1::a2::a3::a4::a5::a6::a7::a8::a9::a10::a11::a12::a13::a14::a15::a16::some v::r) H:=rfl
theorem HR{v:V}{Z:St->Hp->Prop}{a16:Option V}{a17:Option V}:bD 18 v (a0::a1::a2::a3::a4::a5::a6::a7::a8::a9::a10::a11::a12::a13::a14::a15::a16::a17::b::r) H Z=Z (a0::a1::a2::a3::a4::a5::a6::a7::a8::a9::a10::a11::a12::a13::a14::a15::a16::a17::some v::r) H:=rfl
theorem r_c{v:V}:tC v σ H Q=Q v H:=rfl
theorem Jd{r:R2}{tb:TE}:tOp r ta tb σ H Q=ta σ H fun x H1=>tb σ H1 fun y H2=>r x y H2 Q:=rfl
theorem Ji{r:V->Hp->VK->Prop}:tUn r ta σ H Q=ta σ H fun x H1=>r x H1 Q:=rfl
theorem oK:decide (V.int i=V.int j)=decide (i=j):=by
 by_cases h:i=j
 ·rw [decide_eq_true h,decide_eq_true (congrArg V.int h)]
 ·rw [decide_eq_false h,decide_eq_false fun q=>h (V.int.inj q)]
theorem xm{i j:Str}:decide (V.str i=V.str j)=decide (i=j):=by
 by_cases h:i=j
 ·rw [decide_eq_true h,decide_eq_true (congrArg V.str h)]
 ·rw [decide_eq_false h,decide_eq_false fun q=>h (V.str.inj q)]
theorem HE:rEq (.int i) (.int j) H Q=Q (.bl (decide (i=j))) H:=by show (wg (.int i) (.int j)=true/\Q (.bl (decide (V.int i=V.int j))) H)=_;rw [oK];exact propext ⟨fun h=>h.2,fun h=>⟨rfl,h⟩⟩
theorem HF{i j:Str}:rEq (.str i) (.str j) H Q=Q (.bl (decide (i=j))) H:=by show (wg (.str i) (.str j)=true/\Q (.bl (decide (V.str i=V.str j))) H)=_;rw [xm];exact propext ⟨fun h=>h.2,fun h=>⟨rfl,h⟩⟩
theorem HZ:rNe (.int i) (.int j) H Q=Q (.bl (!decide (i=j))) H:=by show (wg (.int i) (.int j)=true/\Q (.bl (!decide (V.int i=V.int j))) H)=_;rw [oK];exact propext ⟨fun h=>h.2,fun h=>⟨rfl,h⟩⟩
theorem Fe{c:Bool}{Z:Bool->Prop}:(∃k,V.bl c=V.bl k/\Z k)=Z c:=propext ⟨by rintro ⟨_,e,q⟩;cases e;exact q,by intro q;exact zn c rfl q⟩
theorem BO{Z:Int->Prop}:(∃k,V.int c=V.int k/\Z k)=Z c:=propext ⟨by rintro ⟨_,e,q⟩;cases e;exact q,by intro q;exact zn c rfl q⟩
theorem FK{t:TE}{Z:Bool->Hp->Prop}:DQ t σ H Z=t σ H fun x H'=>∃k,x=.bl k/\Z k H':=rfl
theorem r_B{t:TE}{Z:Bool->Hp->Prop}:tB t σ H Z=t σ H fun x H'=>∃k,x=.bl k/\Z k H':=rfl
theorem Hz{t u:TT}{Z:Bool->Hp->Prop}:Im t u σ H Z=t σ H fun c H1=>if c=true then u σ H1 Z else Z false H1:=rfl
theorem Je{t u:TT}{Z:Bool->Hp->Prop}:tOr t u σ H Z=t σ H fun c H1=>if c=true then Z true H1 else u σ H1 Z:=rfl
theorem Ia{t:TT}{Z:Bool->Hp->Prop}:Ir t σ H Z=t σ H fun c H1=>Z (!c) H1:=rfl
theorem EY{tb:TE}:DK ta tb σ H Q=ta σ H fun x H1=>∃c,x=.bl c/\if c=true then tb σ H1 Q else Q (.bl false) H1:=rfl
theorem Ib{tb:TE}:Iu ta tb σ H Q=ta σ H fun x H1=>∃c,x=.bl c/\if c=true then Q (.bl true) H1 else tb σ H1 Q:=rfl
theorem Ja{t:TT}{tb:TE}:tIf t ta tb σ H Q=t σ H fun c H1=>if c=true then ta σ H1 Q else tb σ H1 Q:=rfl
theorem FE:DO D σ H=D.nx σ H:=rfl
theorem yW{t u:TS}:Gx t u D σ H=t {D with nx:=u D} σ H:=rfl
theorem F6:DN te D σ H=te σ H fun _ H1=>D.nx σ H1:=rfl
theorem Id:zB te D σ H=te σ H D.rt:=rfl
theorem CD{c:TT}{t u:TS}:Gv c t u D σ H=c σ H fun b H1=>if b=true then t D σ H1 else u D σ H1:=rfl
theorem HB{g:TG}:Ca te g D σ H=te σ H fun x H1=>g x σ H1 D.nx:=rfl
theorem IU{r:List V->Hp->VK->Prop}{t:TA}:tCB r t σ H Q=t σ H fun vs H1=>r vs H1 Q:=rfl
theorem I0{Z:List V->Hp->Prop}:lj σ H Z=Z [] H:=rfl
theorem F2{tr:TA}{Z:List V->Hp->Prop}:kK ta tr σ H Z=ta σ H fun x H1=>tr σ H1 fun xs H2=>Z (x::xs) H2:=rfl
theorem F1{sp:Sp}{E:XK}{t:TA}:qr sp [] E t σ H Q=t σ H fun vs H1=>sp vs H1 Q E:=by show (t σ H fun vs H1=>sp (vs++[]) H1 Q E)=_;simp only [List.append_nil]
theorem Ii{t:TA}:Cb t σ H Q=t σ H fun xs H1=>xs.length<=sizeLine/\∀p,H1 p=none->Q (.ref p) (upd H1 p (.tup xs)):=rfl
theorem HY{t:TA}:Iq t σ H Q=t σ H fun xs H1=>xs.length<=sizeLine/\∀p,H1 p=none->Q (.ref p) (upd H1 p (.lst xs)):=rfl
theorem Jf{Z:List (V×V)->Hp->Prop}:ie [] σ H Z=Z [] H:=rfl
theorem Jg{tk tv:TE}{r:List (TE×TE)}{Z:List (V×V)->Hp->Prop}:ie ((tk,tv)::r) σ H Z=tk σ H fun x H1=>tv σ H1 fun y H2=>ie r σ H2 fun ps H3=>Z ((x,y)::ps) H3:=rfl
theorem F4{trs:List (TE×TE)}:DM trs σ H Q=∀p,H p=none->ie trs σ (upd H p (.dK [])) fun ps H2=>H2 p=some (.dK [])/\∃kvs:List (Key×V),ps=kvs.map (fun kv=>(kV kv.1,kv.2))/\kvs.length<=15/\Q (.ref p) (upd H2 p (.dK (ib [] kvs))):=rfl
theorem F3{td ty:TE}:DL td ty σ H Q=td σ H fun x H1=>ty σ H1 fun y H2=>∃a v,x=.ref a/\DGet H2 a y (some v)/\Q v H2:=rfl
theorem Jh{r:V->Option Int->Option Int->Hp->VK->Prop}{tl th:TO}:tSl r te tl th σ H Q=te σ H fun x H1=>tl σ H1 fun l H2=>th σ H2 fun u H3=>r x l u H3 Q:=rfl
theorem yO{Z:Option Int->Hp->Prop}:uC σ H Z=Z none H:=rfl
theorem FF{Z:Option Int->Hp->Prop}:DP te σ H Z=te σ H fun x H1=>∃i,x=.int i/\Z (some i) H1:=rfl
theorem Ff{Z:St->Hp->Prop}:GW [] σ H Z=Z σ H:=propext ⟨fun h=>h.2,fun h=>⟨rfl,h⟩⟩
theorem BP{t:TG}{u:TGs}{v:V}{r:List V}{Z:St->Hp->Prop}:Cv t u (v::r) σ H Z=t v σ H fun σ' H'=>u r σ' H' Z:=propext ⟨by rintro ⟨_,_,e,q⟩;cases e;exact q,by intro q;exact zAD v r rfl q⟩
theorem HU{A B:Prop}:(if false=true then A else B)=B:=if_neg zq3
theorem Jc:(!true)=false:=rfl
theorem Jb:(!false)=true:=rfl
theorem Fp:(([]:List V).length<=sizeLine)=True:=eq_true (by show 0<=sizeLine;decide)
theorem Fq{a0:V}:(([a0]:List V).length<=sizeLine)=True:=eq_true (by show 1<=sizeLine;decide)
theorem Fs{a0 a1:V}:(([a0,a1]:List V).length<=sizeLine)=True:=eq_true (by show 2<=sizeLine;decide)
theorem Ft{a0 a1 a2:V}:(([a0,a1,a2]:List V).length<=sizeLine)=True:=eq_true (by show 3<=sizeLine;decide)
theorem Fu{a0 a1 a2 a3:V}:(([a0,a1,a2,a3]:List V).length<=sizeLine)=True:=eq_true (by show 4<=sizeLine;decide)
theorem Fv{a0 a1 a2 a3 a4 a5 a6:V}:(([a0,a1,a2,a3,a4,a5,a6]:List V).length<=sizeLine)=True:=eq_true (by show 7<=sizeLine;decide)
theorem Fw{a0 a1 a2 a3 a4 a5 a6 a7:V}:(([a0,a1,a2,a3,a4,a5,a6,a7]:List V).length<=sizeLine)=True:=eq_true (by show 8<=sizeLine;decide)
end
def nW(J:It)(g:TG)(tb:TS)(D:dm)(σ:St)(H1:Hp):Prop:=∃W:Nat->Nat->St->Hp->Prop,(∃m,W 0 m σ H1)/\∀i m σ H,W i m σ H->
 (J.stop i H/\D.nx σ H)\/(J.go i H/\∃N:St->Hp->Prop,(∀σ' H',N σ' H'->∃m',m'<m/\W (i+1) m' σ' H')/\∀x H',J.yld i H x H'->g x σ H' fun σ2 H2=>tb {D with nx:=N,ct:=N,bk:=D.nx} σ2 H2)
section
variable {g:TG} {tb:TS} {D:dm} {σ:St} {H:Hp}
theorem HH{wi:TI}:Gu wi g tb D σ H=wi σ H fun J H1=>nW J g tb D σ H1:=rfl
theorem BQ{K:W.Frag}{ta:TA}{R:It->Hp->Prop}:xD K ta σ H R=ta σ H fun vs H1=>∃a,vs=[.ref a]/\(∃xs,SqL K H1 a xs)/\R (Ite K a) H1:=rfl
theorem BS{K:W.Frag}{tl:TE}{R:It->Hp->Prop}:Cw K tl σ H R=tl σ H fun x H1=>∃a,x=.ref a/\(∃xs,SqL K H1 a xs)/\R (Itl K a) H1:=rfl
theorem Fk{K:W.Frag}{tl:TE}{R:It->Hp->Prop}:GZ K tl σ H R=tl σ H fun x H1=>∃a,x=.ref a/\(∃xs,SqT K H1 a xs)/\R (Itt K a) H1:=rfl
theorem BU{ta:TA}{R:It->Hp->Prop}:Cy ta σ H R=ta σ H fun vs H1=>∃j:Int,vs=[.int j]/\-(2 ^ 62)<=j/\j<2 ^ 62/\R (Itr 0 j.toNat) H1:=rfl
theorem F7{Z:Int->Prop}:(∃k,[V.int c]=[V.int k]/\Z k)=Z c:=propext ⟨by rintro ⟨_,e,q⟩;cases e;exact q,by intro q;exact zn c rfl q⟩
theorem F8{d:Int}{Z:Int->Int->Prop}:(∃k l,[V.int c,V.int d]=[V.int k,V.int l]/\Z k l)=Z c d:=propext ⟨by rintro ⟨_,_,e,q⟩;cases e;exact q,by intro q;exact zAD c d rfl q⟩
theorem F9{c:Addr}{Z:Addr->Prop}:(∃k,[V.ref c]=[V.ref k]/\Z k)=Z c:=propext ⟨by rintro ⟨_,e,q⟩;cases e;exact q,by intro q;exact zn c rfl q⟩
theorem HG{c:Addr}{Z:Addr->Prop}:(∃k,V.ref c=V.ref k/\Z k)=Z c:=propext ⟨by rintro ⟨_,e,q⟩;cases e;exact q,by intro q;exact zn c rfl q⟩
theorem xw{lo:Int}(Pv:Nat->St->Hp->Prop)(h0:Pv 0 σ H)
 (hs:∀(i:Nat)σ H,i<n->Pv i σ H->g (.int (lo+i)) σ H fun σ2 H2=>tb {D with nx:=Pv (i+1),ct:=Pv (i+1),bk:=D.nx} σ2 H2) (hd:∀σ H,Pv n σ H->D.nx σ H):nW (Itr lo n) g tb D σ H:=vi Pv h0 hs hd
theorem gu(Pv:Nat->St->Hp->Prop)(h0:Pv 0 σ H)
 (hs:∀(i:Nat)σ H,i<n->Pv i σ H->g (.int (i:Int)) σ H fun σ2 H2=>tb {D with nx:=Pv (i+1),ct:=Pv (i+1),bk:=D.nx} σ2 H2) (hd:∀σ H,Pv n σ H->D.nx σ H):nW (Itr 0 n) g tb D σ H:=
 xw Pv h0 (fun i σ H hi p=>by rw [Int.zero_add];exact hs i σ H hi p) hd
theorem mP{K:W.Frag}(Pv:Nat->St->Hp->Prop)(h0:Pv 0 σ H)(hl:∀i σ H,i<=xs.length->Pv i σ H->SqL K H a xs)
 (hs:∀(i:Nat)x σ H p,xs[i]?=some x->H p=none->Pv i σ H->g (.ref p) σ (upd H p (.tup [.int i,x])) fun σ2 H2=>tb {D with nx:=Pv (i+1),ct:=Pv (i+1),bk:=D.nx} σ2 H2) (hd:∀σ H,Pv xs.length σ H->D.nx σ H):nW (Ite K a) g tb D σ H:=xr Pv h0 hl hs hd
theorem dk{K:W.Frag}(Pv:Nat->St->Hp->Prop)(h0:Pv 0 σ H)(hl:∀i σ H,i<=xs.length->Pv i σ H->SqL K H a xs)
 (hs:∀(i:Nat)x σ H,xs[i]?=some x->Pv i σ H->g x σ H fun σ2 H2=>tb {D with nx:=Pv (i+1),ct:=Pv (i+1),bk:=D.nx} σ2 H2) (hd:∀σ H,Pv xs.length σ H->D.nx σ H):nW (Itl K a) g tb D σ H:=xt Pv h0 hl hs hd
theorem Same.upd{H:Hp}{o:HO}(h:H p=none):Same H (upd H p o):=fun b u e=>by rw [ao (am e h)];exact e
theorem Same.seqT{K:W.Frag}{H H':Hp}(e:Same H H')(h:SqT K H a xs):SqT K H' a xs:=by
 rcases h with (h | ⟨o,h⟩) | h
 ·exact .inl (.inl (e _ _ h))
 ·exact .inl (.inr ⟨o,e _ _ h⟩)
 ·exact .inr h
end
section
variable {H:Hp} {Q:VK} {σ:St} {D:dm} {K:W.Frag}
theorem IW{T:String}{r:V->List V->Hp->VK->Prop}{to:TE}{t:TA}:tBM K T r to t σ H Q=to σ H fun x H1=>tyV K T x H1/\t σ H1 fun xs H2=>r x xs H2 Q:=rfl
theorem HC{T:String}{r:V->List V->Hp->VK->Prop}{to:TE}:Io K T r to σ H Q=to σ H fun x H1=>tyV K T x H1/\r x [] H1 Q:=rfl
theorem HW{z:Str}:Hs (.str z) (.int i) H Q=(z.length<=sizeLine/\∃c,atI z.cps.toList i=some c/\Q (.str ⟨#[c]⟩) H):=propext ⟨by rintro ⟨_,_,c,e1,e2,h1,h2,q⟩;cases e1;cases e2;exact ⟨h1,zn c h2 q⟩,by rintro ⟨h1,c,h2,q⟩;exact zAL _ _ c rfl rfl h1 h2 q⟩
theorem HV:EW K (.ref p) (.int i) H Q=∃xs v,SqL K H p xs/\atI xs i=some v/\Q v H:=propext ⟨by rintro ⟨_,xs,_,v,e1,e2,h1,h2,q⟩;cases e1;cases e2;exact zAA xs v h1 h2 q,by rintro ⟨xs,v,h1,h2,q⟩;exact zAM _ xs _ v rfl rfl h1 h2 q⟩
theorem CF:BI K (.ref p) (.int i) H Q=∃xs v,SqT K H p xs/\atI xs i=some v/\Q v H:=propext ⟨by rintro ⟨_,xs,_,v,e1,e2,h1,h2,q⟩;cases e1;cases e2;exact zAA xs v h1 h2 q,by rintro ⟨xs,v,h1,h2,q⟩;exact zAM _ xs _ v rfl rfl h1 h2 q⟩
theorem HD{b:Addr}:Hr (.ref a) (.ref b) H Q=∃xs zs,H a=some (.lst xs)/\H b=some (.lst zs)/\xs.length+zs.length<=sizeLine/\∀p,H p=none->Q (.ref p) (upd H p (.lst (xs++zs))):=propext ⟨by rintro ⟨_,_,xs,zs,e1,e2,h⟩;cases e1;cases e2;exact zAJ xs zs h,by rintro ⟨xs,zs,h⟩;exact zAX _ _ xs zs rfl rfl h⟩
theorem Ig{lo hi:Option Int}:Hx K (.ref a) lo hi H Q=∃xs,SqL K H a xs/\∀p,H p=none->Q (.ref p) (upd H p (.lst (gM xs lo hi))):=propext ⟨by rintro ⟨_,xs,e1,h⟩;cases e1;exact ⟨xs,h⟩,by rintro ⟨xs,h⟩;exact zAD _ xs rfl h⟩
theorem yF{y:V}:tT (.ref a) [y] H Q=∃xs,H a=some (.lst xs)/\xs.length<sizeLine/\Q .non (upd H a (.lst (xs++[y]))):=propext ⟨by rintro ⟨_,xs,_,e1,e2,h⟩;cases e1;cases e2;exact ⟨xs,h⟩,by rintro ⟨xs,h⟩;exact zAN _ xs _ rfl rfl h⟩
theorem Ic:Hu (.ref a) [] H Q=∃xs y,H a=some (.lst xs)/\xs[xs.length-1]?=some y/\Q y (upd H a (.lst xs.dropLast)):=propext ⟨by rintro ⟨_,xs,y,e1,_,h⟩;cases e1;exact zAJ xs y h,by rintro ⟨xs,y,h⟩;exact zAN _ xs y rfl rfl h⟩
theorem Fd{a b:Str}{Z:Str->Str->Prop}:(∃i j,V.str a=V.str i/\V.str b=V.str j/\Z i j)=Z a b:=propext ⟨by rintro ⟨_,_,e1,e2,q⟩;cases e1;cases e2;exact q,by intro q;exact zAA a b rfl rfl q⟩
theorem Fb{Z:Addr->List V->Prop}:(∃p ys,[V.ref a]=[V.ref p]/\Z p ys)=∃ys,Z a ys:=propext ⟨by rintro ⟨_,ys,e1,q⟩;cases e1;exact ⟨ys,q⟩,by rintro ⟨ys,q⟩;exact zAD a ys rfl q⟩
theorem Fo{c:Bool}{Z:Int->Prop}{Y:Bool->Prop}:((∃i,[V.bl c]=[V.int i]/\Z i)\/∃k,[V.bl c]=[V.bl k]/\Y k)=Y c:=propext ⟨fun h=>(by rcases h with ⟨_,e,q⟩ | ⟨_,e,q⟩<;>cases e<;>exact q),fun q=>Or.inr (zn c rfl q)⟩
theorem Fh{t:TGs}{Z:St->Hp->Prop}:GX K n t (.ref a) σ H Z=∃xs,SqT K H a xs/\xs.length=n/\t xs σ H Z:=propext ⟨by rintro ⟨_,xs,e,h⟩;cases e;exact ⟨xs,h⟩,by rintro ⟨xs,h⟩;exact zAD a xs rfl h⟩
end
end L2
namespace L2
section
variable {prog:Program} {w:World} {A:Around} {R:Result->Shared->Prop} {s:Shared}
end
end L2
namespace L2
inductive Dq (K:W.Frag) (H:Hp):Nat->V->V->Bool->Prop where
 |flat {n:Nat} {x y:V} (fx:bF x=true) (fy:bF y=true):Dq K H n x y (eqV x y)
 |same {n:Nat} {a:Addr}:Dq K H n (.ref a) (.ref a) true
 |lists {n:Nat} {a b:Addr} {xs ys:List V} (e:Nat->Bool) (ne:a≠b) (ha:SqL K H a xs) (hb:SqL K H b ys) (hl:xs.length=ys.length)
   (he:∀(j:Nat)x y,xs[j]?=some x->ys[j]?=some y->Dq K H n x y (e j)):Dq K H (n+1) (.ref a) (.ref b) ((List.range xs.length).all e)
 |lens {n:Nat} {a b:Addr} {xs ys:List V} (ne:a≠b) (ha:SqL K H a xs) (hb:SqL K H b ys) (hl:¬xs.length=ys.length):Dq K H (n+1) (.ref a) (.ref b) false
 |tups {n:Nat} {a b:Addr} {xs ys:List V} (e:Nat->Bool) (ne:a≠b) (ha:SqT K H a xs) (hb:SqT K H b ys)
   (he:∀(j:Nat)x y,xs[j]?=some x->ys[j]?=some y->Dq K H n x y (e j)):Dq K H (n+1) (.ref a) (.ref b) ((List.range (min xs.length ys.length)).all e&&xs.length==ys.length)
section
variable {X:Cx} {pins:List (Addr×Obj)} {σ:St} {H:Hp} {s:Shared}
theorem fK{xs:List V}{its:List Value}(r:Vals xs its){j:Nat}(h:j<its.toArray.size):∃x,xs[j]?=some x/\RelV x its.toArray[j]:=by
 have hl:=r.length;have hj:j<xs.length:=by simpa [hl] using h
 obtain ⟨u,hu,ru⟩:=r.get (zq8 hj);have e:its.toArray[j]=u:=by
  have h2:its[j]?=some u:=hu;have h3:j<its.length:=by simpa using h
  rw [zq8 h3] at h2;simpa using h2
 exact zn (xs[j]) (zq8 hj) (by rw [e];exact ru)
theorem Dq.at(I:Inv X pins σ H s){n:Nat}{x y:V}{b:Bool}(d:Dq X.K H n x y b):∀{A:Around} {v u:Value},RelV x v->RelV y u->A.units+n<cLine->SeqAt.EqAt A s v u b:=by
 induction d with
 |flat fx fy=>intro A v u rv ru _;exact mN rv ru fx fy
 |same=>intro A v u rv ru _;cases rv;cases ru;exact SeqAt.EqAt.same _
 | @lists n a b xs ys e ne ha hb hl he ih=>
  intro A v u rv ru hu
  cases rv;cases ru
  obtain ⟨its,r,p,_⟩:=I.list ha;obtain ⟨its2,r2,p2,_⟩:=I.list hb;have e1:=r.length;have e2:=r2.length;have z:=SeqAt.RcAt.lists (A:=A) (e:=e) p.isList p2.isList (by simp;omega) Jy fun j h1 h2=>by obtain ⟨x,hx,rx⟩:=fK r h1;obtain ⟨y,hy,ry⟩:=fK r2 h2;exact ih j x y hx hy rx ry (by show A.units+1+n<cLine;omega)
  have e3:its.toArray.size=xs.length:=by simp [e1]
  rw [e3] at z;exact SeqAt.EqAt.of_refs ne z
 | @lens n a b xs ys ne ha hb hl=>
  intro A v u rv ru hu
  cases rv;cases ru
  obtain ⟨its,r,p,_⟩:=I.list ha;obtain ⟨its2,r2,p2,_⟩:=I.list hb;have e1:=r.length;have e2:=r2.length;exact SeqAt.EqAt.of_refs ne (SeqAt.RcAt.lists_lengths (A:=A) p.isList p2.isList (by simp;omega) Jy)
 | @tups n a b xs ys e ne ha hb he ih=>
  intro A v u rv ru hu
  cases rv;cases ru
  obtain ⟨its,r,p,_⟩:=I.tuple ha;obtain ⟨its2,r2,p2,_⟩:=I.tuple hb;have e1:=r.length;have e2:=r2.length;have z:=SeqAt.RcAt.tuples (A:=A) (e:=e) (show s.heap.IsTuple a its.toArray from p) (show s.heap.IsTuple b its2.toArray from p2) Jy fun j h1 h2=>by obtain ⟨x,hx,rx⟩:=fK r h1;obtain ⟨y,hy,ry⟩:=fK r2 h2;exact ih j x y hx hy rx ry (by show A.units+1+n<cLine;omega)
  have e3:its.toArray.size=xs.length:=by simp [e1]
  have e4:its2.toArray.size=ys.length:=by simp [e2]
  rw [e3,e4] at z;exact SeqAt.EqAt.of_refs ne z
end
inductive Rq (K:W.Frag) (H:Hp) (n:Nat):V->V->Bool->Prop where
 |lists {a b:Addr} {xs ys:List V} (e:Nat->Bool) (ha:SqL K H a xs) (hb:SqL K H b ys) (hl:xs.length=ys.length)
   (he:∀(j:Nat)x y,xs[j]?=some x->ys[j]?=some y->Dq K H n x y (e j)):Rq K H n (.ref a) (.ref b) ((List.range xs.length).all e)
 |lens {a b:Addr} {xs ys:List V} (ha:SqL K H a xs) (hb:SqL K H b ys) (hl:¬xs.length=ys.length):Rq K H n (.ref a) (.ref b) false
 |tups {a b:Addr} {xs ys:List V} (e:Nat->Bool) (ha:SqT K H a xs) (hb:SqT K H b ys)
   (he:∀(j:Nat)x y,xs[j]?=some x->ys[j]?=some y->Dq K H n x y (e j)):Rq K H n (.ref a) (.ref b) ((List.range (min xs.length ys.length)).all e&&xs.length==ys.length)
def IS(K:W.Frag)(n:Nat):R2:=fun x y H Q=>∃b,Rq K H n x y b/\Q (.bl b) H
def IT(K:W.Frag)(n:Nat):R2:=fun x y H Q=>∃b,Rq K H n x y b/\Q (.bl (!b)) H
section
variable {X:Cx}
theorem rD{n:Nat}(hu:X.A.units+(n+1)<cLine):OpR X (compareOp .Eq) (IS X.K n):=by
 intro pins s σ H x y v u Q I rx ry h;obtain ⟨b,d,q⟩:=h
 cases d with
 | @lists a c xs ys e ha hb hl he=>
  cases rx;cases ry
  obtain ⟨its,r,p,_⟩:=I.list ha;obtain ⟨its2,r2,p2,_⟩:=I.list hb;have e1:=r.length;have e2:=r2.length;have e3:its.toArray.size=xs.length:=by simp [e1]
  refine SeqAt.eq_listAt (e:=e) p.isList p2.isList (by simp;omega) Jy (fun j h1 h2=>?_) (zAA (.bl _) H I rfl (by rw [e3];exact q));obtain ⟨x,hx,rx⟩:=fK r h1;obtain ⟨y,hy,ry⟩:=fK r2 h2;exact (he j x y hx hy).at I rx ry (by show X.A.units+1+n<cLine;omega)
 | @lens a c xs ys ha hb hl=>
  cases rx;cases ry
  obtain ⟨its,r,p,_⟩:=I.list ha;obtain ⟨its2,r2,p2,_⟩:=I.list hb;have e1:=r.length;have e2:=r2.length;exact SeqAt.eq_list_lengthsAt p.isList p2.isList (by simp;omega) Jy (zAA (.bl _) H I rfl q)
 | @tups a c xs ys e ha hb he=>
  cases rx;cases ry
  obtain ⟨its,r,p,_⟩:=I.tuple ha;obtain ⟨its2,r2,p2,_⟩:=I.tuple hb;have e1:=r.length;have e2:=r2.length;have e3:its.toArray.size=xs.length:=by simp [e1]
  have e4:its2.toArray.size=ys.length:=by simp [e2]
  refine SeqAt.eq_tupleAt (e:=e) (show s.heap.IsTuple a its.toArray from p) (show s.heap.IsTuple c its2.toArray from p2) Jy (fun j h1 h2=>?_) (zAA (.bl _) H I rfl (by rw [e3,e4];exact q));obtain ⟨x,hx,rx⟩:=fK r h1;obtain ⟨y,hy,ry⟩:=fK r2 h2;exact (he j x y hx hy).at I rx ry (by show X.A.units+1+n<cLine;omega)
theorem EI{n:Nat}(hu:X.A.units+(n+1)<cLine):OpR X (compareOp .NotEq) (IT X.K n):=by
 intro pins s σ H x y v u Q I rx ry h;obtain ⟨b,d,q⟩:=h
 cases d with
 | @lists a c xs ys e ha hb hl he=>
  cases rx;cases ry
  obtain ⟨its,r,p,_⟩:=I.list ha;obtain ⟨its2,r2,p2,_⟩:=I.list hb;have e1:=r.length;have e2:=r2.length;have e3:its.toArray.size=xs.length:=by simp [e1]
  refine SeqAt.RcNeAt.lists (A:=X.A) (e:=e) p.isList p2.isList (by simp;omega) Jy (fun j h1 h2=>?_) X.prog X.w X.xe _ (zAA (.bl _) H I rfl (by rw [e3];exact q));obtain ⟨x,hx,rx⟩:=fK r h1;obtain ⟨y,hy,ry⟩:=fK r2 h2;exact (he j x y hx hy).at I rx ry (by show X.A.units+1+n<cLine;omega)
 | @lens a c xs ys ha hb hl=>
  cases rx;cases ry
  obtain ⟨its,r,p,_⟩:=I.list ha;obtain ⟨its2,r2,p2,_⟩:=I.list hb;have e1:=r.length;have e2:=r2.length;exact SeqAt.RcNeAt.lists_lengths (A:=X.A) p.isList p2.isList (by simp;omega) Jy X.prog X.w X.xe _ (zAA (.bl _) H I rfl q)
 | @tups a c xs ys e ha hb he=>
  cases rx;cases ry
  obtain ⟨its,r,p,_⟩:=I.tuple ha;obtain ⟨its2,r2,p2,_⟩:=I.tuple hb;have e1:=r.length;have e2:=r2.length;have e3:its.toArray.size=xs.length:=by simp [e1]
  have e4:its2.toArray.size=ys.length:=by simp [e2]
  refine SeqAt.RcNeAt.tuples (A:=X.A) (e:=e) (show s.heap.IsTuple a its.toArray from p) (show s.heap.IsTuple c its2.toArray from p2) Jy (fun j h1 h2=>?_) X.prog X.w X.xe _ (zAA (.bl _) H I rfl (by rw [e3,e4];exact q));obtain ⟨x,hx,rx⟩:=fK r h1;obtain ⟨y,hy,ry⟩:=fK r2 h2;exact (he j x y hx hy).at I rx ry (by show X.A.units+1+n<cLine;omega)
end
theorem xp{x:V}(h:bF x=true):eqV x x=true:=by cases x<;>first | rfl | (exact absurd h zq3) | (simp [eqV])
theorem wX(n:Nat):(List.range n).all (fun _=>true)=true:=by simp
end L2
namespace L2
def cY(cells:List (Str×Addr)):List (Str×NameKind)->List (Str×Addr)->List (Str×Addr)
 | [],acc=>acc
 | (n,k)::r,acc=>if k==.free then cY cells r ((n,(cells.lookup n).getD 0)::acc) else cY cells r acc
theorem eM{scope:Scope}{env:Env}(h:∀y∈scope.names,y.2=.free->∃c,env.cells.lookup y.1=some c):closureFor scope env=pure (cY env.cells scope.names []):=by
 have key:∀(names:List (Str×NameKind)) (acc:List (Str×Addr)),(∀y∈names,y.2=.free->∃c,env.cells.lookup y.1=some c)->
   (forIn names acc fun x (r:List (Str×Addr))=>match x with
    | (name,kind)=>if (kind==.free)=true then do let c <- cellOf env name;pure (ForInStep.yield ((name,c)::r)) else pure (ForInStep.yield r))=(pure (cY env.cells names acc):Sem (List (Str×Addr))):=by
  intro names
  induction names with
  |nil=>intro acc _;rfl
  |cons y r ih=>
   intro acc hy;obtain ⟨n,k⟩:=y;rw [List.forIn_cons]
   cases hk:(k==NameKind.free) with
   |true=>
    have hk':k=.free:=by simpa using hk
    obtain ⟨c,hc⟩:=hy (n,k) eD hk';have e:cellOf env n=pure c:=by unfold cellOf;rw [show env.cells.lookup n=some c from hc]
    simp only [hk,if_true,e,pure_bind];rw [ih _ fun z hz=>hy z (zq6 _ hz)];simp only [cY,hk,if_true];rw [show env.cells.lookup n=some c from hc];rfl
   |false=>simp only [hk,Bool.false_eq_true,if_false,pure_bind];rw [ih _ fun z hz=>hy z (zq6 _ hz)];simp only [cY,hk,Bool.false_eq_true,if_false]
 refine (show closureFor scope env=((forIn scope.names [] fun x (r:List (Str×Addr))=>match x with
    | (name,kind)=>if (kind==.free)=true then do let c <- cellOf env name;pure (ForInStep.yield ((name,c)::r)) else pure (ForInStep.yield r)) >>= fun cs=>pure cs) from rfl).trans ?_
 rw [key scope.names [] h];rfl
theorem ir{cells:List (Str×Addr)}:∀{names:List (Str×NameKind)} {acc:List (Str×Addr)},(∀y∈names,y.2=.free->∃c,cells.lookup y.1=some c)->(∀y c,acc.lookup y=some c->cells.lookup y=some c)->
  ∀y c,(cY cells names acc).lookup y=some c->cells.lookup y=some c
 | [],_,_,ha=>ha
 | (n,k)::r,acc,hn,ha=>by
  intro y c;unfold cY
  split
  ·next hk=>
   refine ir (fun z hz=>hn z (zq6 _ hz)) (fun z d hz=>?_) y c;obtain ⟨e,he⟩:=hn (n,k) eD (by simpa using hk);rw [qG] at hz
   split at hz
   ·next hq=>
    have:z=n:=by simpa using hq
    subst this;have he':cells.lookup z=some e:=he;rw [he'] at hz ⊢;exact hz
   ·exact ha z d hz
  ·exact ir (fun z hz=>hn z (zq6 _ hz)) ha y c
theorem jT{cells:List (Str×Addr)}{y:Str}:∀{names:List (Str×NameKind)} {acc:List (Str×Addr)},(∃c,acc.lookup y=some c)->∃c,(cY cells names acc).lookup y=some c
 | [],_,h=>h
 | (n,k)::r,acc,h=>by
  unfold cY
  split
  ·refine jT ?_;rw [qG]
   split
   ·exact ⟨_,rfl⟩
   ·exact h
  ·exact jT h
theorem dY{cells:List (Str×Addr)}{y:Str}:∀{names:List (Str×NameKind)} {acc:List (Str×Addr)},(y,NameKind.free)∈names->∃c,(cY cells names acc).lookup y=some c
 | (n,k)::r,acc,h=>by
  unfold cY;rcases zq5.mp h with e | e
  ·cases e
   rw [if_pos JA];exact jT ⟨(cells.lookup y).getD 0,by rw [qG,beq_self_eq_true]⟩
  ·split
   ·exact dY e
   ·exact dY e
structure Bk where
 C:Addr
 fp:List Addr
 s₂:Shared
 H₂:Hp
def Cx.blk(X:Cx)(N':List Str)(scope:Scope)(b:Bk):Cx:=
 {prog:=X.prog,w:=X.w,K:=X.K,mg:=X.mg,base:=X.base,A:=X.A,N:=N',s₀:=b.s₂,H₀:=b.H₂,env:=compEnvC scope (cY X.env.cells scope.names []) b.C X.env,outer:=X.stack,stack:=X.stack,ex:=b.fp,fn:=fun _=>false,calm:=X.calm,pn:=[],xe:=fun _ _=>False}
def aL(os:List (Option V))(ci:List Nat)(σ:St):St:=none::(os++ci.map fun i=>(σ[i]?).join)
def ce(J:It)(g:TG)(tt:TT)(te:TE)(nt:Nat)(ci:List Nat)(σ:St)(acc:Addr)(Q:Hp->Prop)(H0:Hp):Prop:=∃W:Nat->Nat->List V->Hp->Prop,(∃m,W 0 m [] H0)/\∀i m ys H,W i m ys H->
 (J.stop i H/\Q H)\/(J.go i H/\∃N:List V->Hp->Prop,(∀zs H',N zs H'->∃m',m'<m/\W (i+1) m' zs H')/\∀y H' os,os.length=nt->J.yld i H y H'->g y (aL os ci σ) H' fun σ1 H1=>(∃os',os'.length=nt/\σ1=aL os' ci σ)/\tt σ1 H1 fun b H2=>if b=true then te σ1 H2 fun z H3=>H3 acc=some (.lst ys)/\ys.length<sizeLine/\N (ys++[z]) (upd H3 acc (.lst (ys++[z]))) else N ys H2)
def kJ(wi:TI)(g:Bk->TG)(tt:Bk->TT)(te:Bk->TE)(nt:Nat)(ci:List Nat):TE:=fun σ H Q=>wi σ H fun J H1=>∀acc,H1 acc=none->∀bk:Bk,ce J (g bk) (tt bk) (te bk) nt ci σ acc (fun H'=>Q (.ref acc) H') (upd H1 acc (.lst []))
def uU(X:Cx)(ifs:List Expr)(t:TT):Prop:=
 ∀(pins:List (Addr×Obj)) (s:Shared) (σ:St) (H:Hp) (Q:Bool->Hp->Prop),Inv X pins σ H s->t σ H Q->
  wpAny (model X.prog X.w) X.A (forIn ifs true fun c r=>if r=true then do let ok <- isTrue c X.env (eval c X.env);pure (ForInStep.yield ok) else pure (ForInStep.yield r)) (TP X pins σ Q) X.xe s
def gO:TT:=fun _ H Q=>Q true H
structure CompSc(X:Cx)(scope:Scope)(cns:List Str)(ci:List Nat):Prop where
 kind:scope.kind=.function
 cell:∀y∈scope.names,y.2≠.cell
 names:∀y∈scope.names,y.2=.local->scope.names.lookup y.1=some .local
 free:∀y∈scope.names,y.2=.free->X.env.kindOf y.1=some .cell\/X.env.kindOf y.1=some .free
 cap:∀(j:Nat)x,cns[j]?=some x->∃i,ci[j]?=some i/\X.N[i]?=some x/\(x,NameKind.free)∈scope.names
 len:cns.length=ci.length
 noloc:∀y,(y,NameKind.free)∈scope.names->¬(relabel scope X.env).names.lookup y=some .local
theorem dN{env:Env}:∀{names:List (Str×NameKind)} {y:Str} {k:NameKind},(names.map fun (n,k)=>if (k==NameKind.free&&env.scope.kind==.function&&env.kindOf n==some .cell) then (n,NameKind.cell) else (n,k)).lookup y=some k->k=.cell\/k=.free->
  (∀z∈names,z.2≠.cell)->(y,NameKind.free)∈names
 | [],_,_,h,_,_=>by simp at h
 | (n,k0)::r,y,k,h,hk,hc=>by
  rw [d9,qG] at h
  by_cases hf:(k0==NameKind.free&&env.scope.kind==.function&&env.kindOf n==some .cell)=true
  ·simp only [hf,if_true] at h;have k0f:k0=.free:=by have:=hf;simp only [Bool.and_eq_true] at this;simpa using this.1.1
   split at h
   ·next hq=>
    have:y=n:=by simpa using hq
    subst this;subst k0f;exact eD
   ·exact zq6 _ (dN h hk fun z hz=>hc z (zq6 _ hz))
  ·simp only [hf] at h
   split at h
   ·next hq=>
    have:y=n:=by simpa using hq
    subst this;have e:k0=k:=by simpa using h
    subst e;rcases hk with z | z
    ·exact absurd z (hc _ eD)
    ·subst z;exact eD
   ·exact zq6 _ (dN h hk fun z hz=>hc z (zq6 _ hz))
section
variable {prog:Program} {w:World} {A:Around} {R:Result->Shared->Prop} {s:Shared}
theorem ix{elt target iter:Expr}{ifs:List Expr}{scope:Scope}{pos:Pos}{it acc:Value}{env:Env}(I:Nat->Shared->Prop)
  (turn:∀n s,I n s->wpAny (model prog w) A (pyNext it) (fun r s₁=>match r with
   |none=>R (.ok .next) s₁
   |some v=>wpAny (model prog w) A (letOwnedTupleGo target it v) (fun _ s₅=>wpAny (model prog w) A (assign target env v) (fun _ s₂=>
     wpAny (model prog w) A (forIn ifs true fun c r=>if r=true then do let ok <- isTrue c env (eval c env);pure (ForInStep.yield ok) else pure (ForInStep.yield r)) (fun ok s₃=>
      if ok=true then wpAny (model prog w) A (eval elt env) (fun x s₄=>wpAny (model prog w) A (call (.builtin "list.append") [acc,x]) (fun _ s₅=>∃m,m<n/\I m s₅) (fun _ _=>False) s₄) (fun _ _=>False) s₃
      else ∃m,m<n/\I m s₃) (fun _ _=>False) s₂) (fun _ _=>False) s₅) (fun _ _=>False) s₁) (fun _ _=>False) s)
  (n:Nat) (h:I n s) :
  codeAny (model prog w) A (.compLoop (.ListComp elt [⟨target,iter,ifs,0⟩] scope pos) 0 it acc env) R s:=by
 refine codeAny_loop rfl I (fun n s hI=>?_) n h;show wpAny _ _ ((compTurn (.ListComp elt [⟨target,iter,ifs,0⟩] scope pos) 0 it acc env).onRaise (fun x=>do noteFrame x env;theTreesLotGoes x)) _ _ s;refine wpAny_noted ?_;rw [compTurn_list];refine wpAny_bind (wpAny_standAt (wpAny_bind (wpAny_mono (turn n s hI) (fun r s₁ h₁=>?_) fun _ _ h'=>h'.elim)))
 cases r with
 |none=>exact wpAny_pure h₁
 |some v=>
  refine wpAny_bind (wpAny_mono h₁ (fun _ s₅ h₅=>?_) fun _ _ h'=>h'.elim);refine wpAny_bind (wpAny_mono h₅ (fun _ s₂ h₂=>wpAny_bind (wpAny_mono h₂ (fun ok s₃ h₃=>?_) fun _ _ h'=>h'.elim)) fun _ _ h'=>h'.elim)
  cases ok with
  |true=>
   rw [if_pos rfl] at h₃;exact wpAny_bind (wpAny_bind (wpAny_mono h₃ (fun x s₃ h₃=>wpAny_bind (wpAny_mono h₃ (fun _ s₄ h₄=>wpAny_pure (wpAny_pure ⟨rfl,h₄⟩)) fun _ _ h'=>h'.elim)) fun _ _ h'=>h'.elim))
  |false=>rw [if_neg zq3] at h₃;exact wpAny_bind (wpAny_pure (wpAny_pure ⟨rfl,h₃⟩))
end
theorem lP{X:Cx}{elt iter tgt:Expr}{ifs:List Expr}{pos:Pos}{scope:Scope}{g:Bk->TG}{tt:Bk->TT}{te:Bk->TE}{tns cns:List Str}{ci:List Nat}{RR:Value->Addr->Result->Shared->Prop}{E:Value->Shared->Prop}
  {pins:List (Addr×Obj)} {σ:St} {H2:Hp} {s2:Shared} {it:Addr} {fp:List Addr} {tn:Nat->Heap->Prop} {J:It} {Q:Addr->Hp->Prop}
  (hc:X.calm=true) (S:CompSc X scope cns ci)
  (hg:∀bk:Bk,PG (X.blk (".0"::(tns++cns)) scope bk) tgt (g bk))
  (ht:∀bk:Bk,uU (X.blk (".0"::(tns++cns)) scope bk) ifs (tt bk))
  (he:∀bk:Bk,PE (X.blk (".0"::(tns++cns)) scope bk) elt (te bk))
  (I2:Inv X pins σ H2 s2) (T:kR X.prog X.w X.K tgt J fp it tn) (st2:tn 0 s2.heap) (f2:∀b∈fp,ju X pins H2 b)
  (hcw:∀acc,H2 acc=none->∀bk:Bk,ce J (g bk) (tt bk) (te bk) tns.length ci σ acc (Q acc) (upd H2 acc (.lst [])))
  (fin:∀D C s5 H4 m,Inv X pins σ H4 s5->s5.heap.Ns C m->ju X pins H4 C->Q D H4->RR (.ref D) C (.ok .next) s5) :
  wpAny (model X.prog X.w) X.A (newList []) (fun acc s₃=>wpAny (model X.prog X.w) X.A (newFunctionEnv scope X.env.globals (cY X.env.cells scope.names []) [] X.env.qual none .none (some X.env)) (fun cenv s₄=>codeAny (model X.prog X.w) X.A (.compStart (.ListComp elt [⟨tgt,iter,ifs,0⟩] scope pos) 0 (.ref it) acc {cenv with scope:=relabel scope X.env}) (RR acc cenv.locals) s₄) E s₃) E s2:=by
 have hfc:∀y∈scope.names,y.2=.free->∃c,X.env.cells.lookup y.1=some c:=fun y hy hk=>I2.ok.has _ (S.free y hy hk);have hsub:∀y c,(cY X.env.cells scope.names []).lookup y=some c->X.env.cells.lookup y=some c:=ir hfc (fun y c e=>by simp at e);refine wpAny_newObj_type (wpAny_newFunctionEnv S.cell (by intro y hy;simp at hy) (fun h₁ hns₁ hsb₁=>?_) S.kind);dsimp only at hns₁ hsb₁ ⊢;generalize hH2:s2.heap.push {cls:=.type "list",dict:=none,data:=.seq ([]:List Value).toArray}=G2 at hns₁ hsb₁ ⊢;have hCz:G2.objs.size=s2.heap.objs.size+1:=by rw [<- hH2,lA]
 have hDC:s2.heap.objs.size≠G2.objs.size:=by rw [hCz];exact cx (uH _)
 have below:∀b,b<s2.heap.objs.size->b≠G2.objs.size:=fun b hb=>by omega
 have old:∀b o,s2.heap.get? b=some o->h₁.get? b=some o:=fun b o e=>hsb₁.extBut b o (below b (zq7 e)) (bX _ (hH2 ▸ bX _ e));have hacc:h₁.get? s2.heap.objs.size=some {cls:=.type "list",dict:=none,data:=.seq ([]:List Value).toArray}:=hsb₁.extBut _ _ hDC (bX _ (hH2 ▸ dA _ rfl));have hnD:H2 s2.heap.objs.size=none:=I2.hok.fresh (zq0 _);have hnC:H2 G2.objs.size=none:=I2.hok.fresh Jy;obtain ⟨W,⟨m0,w0⟩,turn⟩:=hcw s2.heap.objs.size hnD ⟨G2.objs.size,fp,s2,H2⟩;have nlt:∀{b:Addr} {o:Obj},s2.heap.get? b=some o->b≠s2.heap.objs.size:=fun q=>cx (zq7 q);have fpl:∀b∈fp,b<s2.heap.objs.size:=fun b hb=>by obtain ⟨o,e,_⟩:=T.obj _ _ st2 b hb;exact zq7 e
 have clt:∀y c,(cY X.env.cells scope.names []).lookup y=some c->c<s2.heap.objs.size:=fun y c e=>by obtain ⟨v,q⟩:=I2.cell y c (hsub y c e);exact q.lt
 have hasC:∀y,((relabel scope X.env).names.lookup y=some .cell\/(relabel scope X.env).names.lookup y=some .free)->∃c,(cY X.env.cells scope.names []).lookup y=some c:=fun y hk=>by
  rcases hk with z | z
  ·exact dY (dN z (.inl rfl) S.cell)
  ·exact dY (dN z (.inr rfl) S.cell)
 have ok:(X.blk (".0"::(tns++cns)) scope ⟨G2.objs.size,fp,s2,H2⟩).Ok:={
  mod:=I2.ok.mod
  kind:=S.kind
  glob:=I2.ok.glob
  blt:=I2.ok.blt
  above:=by show s2.heap.objs.size<=G2.objs.size;omega
  inj:=fun y z c e1 e2=>I2.ok.inj y z c (hsub y c e1) (hsub z c e2)
  has:=fun y hk=>hasC y hk
  cab:=fun y c e=>by
   have e':(false=true):=e
   cases e'
  hd:=I2.ok.hd
  frames:=I2.ok.frames
  stk:=.inl rfl
  exf:=fun b hb=>⟨below b (fpl b hb),fun y c e=>(f2 b hb).2.2.2.2.1 y c (hsub y c e)⟩
  bs:=I2.bs
  bsz:=cL I2.ok.bsz I2.sz
  noex:=fun b o e hb=>by
   rcases (f2 b hb).2.2.2.1 with z | z
   ·exact I2.ok.noex b o e z
   ·exact absurd (dR (zq7 e) (cL I2.ok.bsz z)) (nN _)
  exfs:=fun b hb hf=>by
   rcases zq5.mp (I2.stkSub b hf) with z | z
   ·exact (f2 b hb).2.1 z
   ·exact (f2 b hb).2.2.1 z
  funs:=I2.stack
  frf:=I2.stkFree}
 have hokD:HOk X.prog X.w (upd H2 s2.heap.objs.size (.lst [])) h₁:=I2.hok.laid old (zq0 _) ⟨cm _,zAD ([]) 0 .nil hacc⟩;have clD:∀y c,(cY X.env.cells scope.names []).lookup y=some c->c≠s2.heap.objs.size:=fun y c e=>cx (clt y c e);have I3:Inv (X.blk (".0"::(tns++cns)) scope ⟨G2.objs.size,fp,s2,H2⟩) [] (aL (List.replicate tns.length none) ci σ) (upd H2 s2.heap.objs.size (.lst [])) {s2 with heap:=h₁,toks:=s2.toks+([]:List (Str×Value)).length}:={
  ok:=ok
  os:=rfl
  bare:=I2.bare
  base:=⟨fun b o e n _ _=>old b o e,fun b o e n _ _=>⟨o.slots,old b o e⟩,fun b o e n _=>by rw [ao (nlt e)];exact n,fun b o e _=>⟨o,old b o e⟩,
   fun b ys e=>by rw [ao (am e hnD)];exact e,fun b o u e=>by rw [ao (am e hnD)];exact e,fun b ps e=>⟨#[],by rw [ao (am e hnD),Array.append_empty];exact e⟩⟩
  loc:=⟨_,hns₁,fun i y v e1 e2 e3=>by
   have e1':((".0":Str)::(tns++cns))[i]?=some y:=e1;unfold aL at e2
   cases i with
   |zero=>simp at e2
   |succ i=>
    rw [A4] at e1' e2
    by_cases hi:i<tns.length
    ·rw [jE (by simpa using hi),A0,if_pos hi] at e2
     cases e2
    ·rw [jh Jy] at e1';rw [jh (by simp;omega),A1] at e2;obtain ⟨q,hq,hN,hm⟩:=S.cap _ _ e1';rw [cn,hq] at e2;have e2':(σ[q]?).join=some v:=by simpa using e2
     have e4:σ[q]?=some (some v):=by
      cases z:σ[q]? with
      |none=>rw [z] at e2';cases e2'
      |some o=>rw [z] at e2';rw [show o=some v from e2']
     obtain ⟨m,hns,hl⟩:=I2.loc;have hvis:Vis X.env.scope y:=by
      rcases S.free (y,.free) hm rfl with z | z
      ·exact .inr (.inl z)
      ·exact .inr (.inr z)
     obtain ⟨u,ru,lk⟩:=hl q y v hN e4 hvis;refine zn u ru (.inr ?_);have hkk:X.env.kindOf y=some .cell\/X.env.kindOf y=some .free:=S.free (y,.free) hm rfl;rcases lk with ⟨k1,_⟩ | ⟨_,c,hc1,hc2⟩
     ·rcases hkk with z | z<;>(rw [k1] at z;cases z)
     ·obtain ⟨c',hc'⟩:=dY (cells:=X.env.cells) (acc:=[]) hm;have ecc:c'=c:=by have:=hsub y c' hc';rw [hc1] at this;cases this;rfl
      subst ecc;have e3':Vis (relabel scope X.env) y:=e3;refine ⟨?_,zn c' hc' ?_⟩
      ·rcases e3' with z | z | z
       ·exfalso;exact S.noloc y hm z
       ·exact .inl z
       ·exact .inr z
      ·exact hc2.keeps old⟩
  cell:=fun y c e=>by obtain ⟨v,q⟩:=I2.cell y c (hsub y c e);exact ⟨v,q.keeps old⟩
  free:=by show upd H2 s2.heap.objs.size (.lst []) G2.objs.size=none;rw [ao (Ne.symm hDC)];exact hnC
  freeC:=fun y c e=>by rw [ao (clD y c e)];exact I2.freeC y c (hsub y c e)
  pin:=fun p hp=>by have hp':p∈([]:List (Addr×Obj))++[]:=hp;simp at hp'
  hok:=hokD
  len:=by show (aL _ ci σ).length=((".0":Str)::(tns++cns)).length;unfold aL;simp [S.len]}
 have st3:tn 0 h₁:=T.keep _ _ _ st2 fun b _ o e=>old b o e;have fr3:∀b∈fp,upd H2 s2.heap.objs.size (.lst []) b=none:=fun b hb=>by rw [ao (cx (fpl b hb))];exact (f2 b hb).1
 have stat:∀{H':Hp},(∀b∈fp,H' b=none)->∀b∈fp,ju (X.blk (".0"::(tns++cns)) scope ⟨G2.objs.size,fp,s2,H2⟩) [] H' b:=fun hn b hb=>zAQ (hn b hb) (below b (fpl b hb)) (ok.exfs b hb) (.inl hb) (fun y c e=>(f2 b hb).2.2.2.2.1 y c (hsub y c e)) fun p hp=>by have hp':p∈([]:List (Addr×Obj))++[]:=hp;simp at hp'
 have loop:∀s₃:Shared,s₃={s2 with heap:=h₁,toks:=s2.toks+([]:List (Str×Value)).length}->
   codeAny (model X.prog X.w) X.A (.compLoop (.ListComp elt [⟨tgt,iter,ifs,0⟩] scope pos) 0 (.ref it) (.ref s2.heap.objs.size) (compEnvC scope (cY X.env.cells scope.names []) G2.objs.size X.env))
    (RR (.ref s2.heap.objs.size) G2.objs.size) s₃:=by
  rintro s₃ rfl;refine ix (fun n s'=>∃(i:Nat)(os:List (Option V)) (ys:List V) (H':Hp),os.length=tns.length/\Inv (X.blk (".0"::(tns++cns)) scope ⟨G2.objs.size,fp,s2,H2⟩) [] (aL os ci σ) H' s'/\tn i s'.heap/\(∀b∈fp,H' b=none)/\W i n ys H') ?_ m0 (zAM 0 _ ([]) _ Jz I3 st3 fr3 w0);rintro n s4 ⟨i,os,ys,H4,hos,I4,st4,fr4,w4⟩;rcases turn i n ys H4 w4 with ⟨stop,q⟩ | ⟨go,N,hN,step⟩
  ·refine thn (T.done (X.blk (".0"::(tns++cns)) scope ⟨G2.objs.size,fp,s2,H2⟩) rfl rfl rfl hc i [] s4 _ H4 (fun _ _=>False) I4 (stat fr4) st4 stop) fun r s5 ⟨hr,I5⟩=>?_;subst hr;obtain ⟨m,hm,_⟩:=I5.loc;have fC:H4 G2.objs.size=none:=I5.free;have ub:Un (frs X.stack) fp H2 H4 s2.heap s5.heap:=I5.base;have IX:Inv X pins σ H4 s5:=I2.call' (s':=s5) (show s5.os=s2.os from I5.os) ub I5.hok I5.bare fun b hb=>zAG (f2 b hb).2.2.2.1 (f2 b hb).2.1 (f2 b hb).2.2.2.2.1 (f2 b hb).2.2.2.2.2
   exact fin _ _ s5 H4 m IX hm (I2.fpOk Jy fC) q
  ·refine thn (T.item (X.blk (".0"::(tns++cns)) scope ⟨G2.objs.size,fp,s2,H2⟩) rfl rfl rfl hc i [] s4 _ H4 (fun _ _=>False) I4 (stat fr4) st4 go) fun r s5 ⟨u,hr,h5⟩=>?_;subst hr;refine thn h5 fun _ s6 hhx=>?_;obtain ⟨y,H6,I6,r6,y6,st6,fr6⟩:=hhx;have I6':=I6.pinned (stat fr6) (T.obj _ _ st6);refine thn (hg _ _ s6 _ H6 y u _ I6' r6 (step y H6 os hos y6)) fun _ s7 ⟨σ7,H7,I7,⟨os',hos',e7⟩,q7⟩=>?_;subst e7;have back:∀{H9:Hp} {s9:Shared},Inv (X.blk (".0"::(tns++cns)) scope ⟨G2.objs.size,fp,s2,H2⟩) ([]++ic fp s6.heap) (aL os' ci σ) H9 s9->tn (i+1) s9.heap/\∀b∈fp,H9 b=none:=fun {H9 s9} I9=>⟨T.keep _ _ _ st6 fun b hb ob e=>(I9.pin (b,ob) (dC _ (dC _ (cP hb e)))).1,fun b hb=>by obtain ⟨ob,e,d⟩:=T.obj _ _ st6 b hb;exact (I9.pin (b,ob) (dC _ (dC _ (cP hb e)))).2.1⟩
   refine thn (ht _ _ s7 _ H7 _ I7 q7) fun b s8 hhx=>?_;obtain ⟨H8,I8,q8⟩:=hhx
   cases b with
   |false=>
    rw [if_neg zq3] at q8 ⊢;obtain ⟨m',hm',w8⟩:=hN _ _ q8;exact zn m' hm' (zAM (i+1) os' ys _ hos' I8.unpinned (back I8).1 (back I8).2 w8)
   |true=>rw [if_pos rfl] at q8 ⊢;refine thn (he _ _ s8 _ H8 _ I8 q8) fun zv s8 hhx=>?_;obtain ⟨z,H8,I8,rz,ha8,hl8,n8⟩:=hhx;obtain ⟨m',hm',w8⟩:=hN _ _ n8;refine thn (bg (X:=X.blk (".0"::(tns++cns)) scope ⟨G2.objs.size,fp,s2,H2⟩) _ s8 _ H8 (.ref s2.heap.objs.size) [z] (.ref s2.heap.objs.size) [zv] (fun _ H9=>H9=upd H8 s2.heap.objs.size (.lst (ys++[z]))) I8 rfl (.cons rz .nil) (zAL _ ys z rfl rfl ha8 hl8 rfl)) fun _ s9 hhx=>?_;obtain ⟨_,H9,I9,_,e9⟩:=hhx;subst e9;exact zn m' hm' (zAM (i+1) os' (ys++[z]) _ hos' I9.unpinned (back I9).1 (back I9).2 w8)
 exact codeAny_compStart_list (loop _ rfl) (T.self _ 0 _ _ _ st3 (loop _ rfl))
theorem yn{X:Cx}{elt iter tgt:Expr}{ifs:List Expr}{pos:Pos}{scope:Scope}{wi:TI}{g:Bk->TG}{tt:Bk->TT}{te:Bk->TE}{tns cns:List Str}{ci:List Nat}(hc:X.calm=true)(S:CompSc X scope cns ci)(hi:PI X tgt iter wi)
  (hg:∀bk:Bk,PG (X.blk (".0"::(tns++cns)) scope bk) tgt (g bk))
  (ht:∀bk:Bk,uU (X.blk (".0"::(tns++cns)) scope bk) ifs (tt bk))
  (he:∀bk:Bk,PE (X.blk (".0"::(tns++cns)) scope bk) elt (te bk))
  (hs:∀v,foldedSetIterable iter X.env v=pure v:=by intro _;rfl) :
  PE X (.ListComp elt [⟨tgt,iter,ifs,0⟩] scope pos) (kJ wi g tt te tns.length ci):=by
 intro pins s σ H Q I h;have hfc:∀y∈scope.names,y.2=.free->∃c,X.env.cells.lookup y.1=some c:=fun y hy hk=>I.ok.has _ (S.free y hy hk);rw [eval_ListComp];refine wpAny_comprehension_free (use:=none) rfl hs (eM hfc) S.kind S.names (thn (hi pins s σ H _ I h) fun v s1 h1=>thn h1 fun itv s2 h2=>?_);obtain ⟨it,fp,tn,J,H2,rfl,I2,T,st2,f2,hcw⟩:=h2;refine lP (RR:=fun acc C=>compPost (model X.prog X.w) X.A X.xe none (EP X pins σ Q) acc C) hc S hg ht he I2 T st2 f2 hcw fun D C s5 H4 m I5 hm fo q=>?_;refine zn m hm fun h' hs'=>zAA (.ref D) H4 ?_ rfl q;exact I5.turned (t':=s5.toks) (it:=C) (fun b o hb e=>(hs'.2 b hb).trans e) fo.1 fo.2.1 fo.2.2.2.1 fo.2.2.2.2.1 fo.2.2.2.2.2
def kC(i:Nat)(wi:TI)(g:Bk->TG)(tt:Bk->TT)(te:Bk->TE)(nt:Nat)(ci:List Nat):TS:=fun D σ H=>wi σ H fun J H1=>∀acc,H1 acc=none->∀bk:Bk,ce J (g bk) (tt bk) (te bk) nt ci σ acc (fun H'=>D.nx (σ.set i (some (.ref acc))) H') (upd H1 acc (.lst []))
theorem rM{X:Cx}{i:Nat}{x:Str}{px pos':Pos}{elt iter tgt:Expr}{ifs:List Expr}{pos:Pos}{scope:Scope}{wi:TI}{g:Bk->TG}{tt:Bk->TT}{te:Bk->TE}{tns cns:List Str}{ci:List Nat}
  (hN:X.N.Nodup) (hx:X.N[i]?=some x) (hl:Loc X.env.scope x) (hf:X.fn x=true) (hsw:swapsWith (.ListComp elt [⟨tgt,iter,ifs,0⟩] scope pos) (some (.Name x px)) pos'.line X.env=pure true)
  (hc:X.calm=true) (S:CompSc X scope cns ci) (hi:PI X tgt iter wi)
  (hg:∀bk:Bk,PG (X.blk (".0"::(tns++cns)) scope bk) tgt (g bk))
  (ht:∀bk:Bk,uU (X.blk (".0"::(tns++cns)) scope bk) ifs (tt bk))
  (he:∀bk:Bk,PE (X.blk (".0"::(tns++cns)) scope bk) elt (te bk))
  (hs:∀v,foldedSetIterable iter X.env v=pure v:=by intro _;rfl) :
  PS X (.Assign [.Name x px] (.ListComp elt [⟨tgt,iter,ifs,0⟩] scope pos) pos') (kC i wi g tt te tns.length ci):=by
 intro pins s σ H D I h;have hfc:∀y∈scope.names,y.2=.free->∃c,X.env.cells.lookup y.1=some c:=fun y hy hk=>I.ok.has _ (S.free y hy hk);rw [exec_Assign_Name_used _ _ _ _ hsw];refine wpAny_bind (wpAny_standAt (wpAny_bind ?_));show wpAny _ _ (do let _ <- comprehension (.ListComp elt [⟨tgt,iter,ifs,0⟩] scope pos) scope X.env _ (newList []) false (eval iter X.env) (some (assign (.Name x px) X.env))) _ _ s;refine wpAny_bind (wpAny_mono (wpAny_comprehension_free (use:=some (assign (.Name x px) X.env)) (Q:=fun _ s'=>SP X pins D .next s') rfl hs (eM hfc) S.kind S.names
  (thn (hi pins s σ H _ I h) fun v s1 h1=>thn h1 fun itv s2 h2=>?_)) (fun _ s' hq=>wpAny_pure (wpAny_pure hq)) fun _ _ e=>e)
 obtain ⟨it,fp,tn,J,H2,rfl,I2,T,st2,f2,hcw⟩:=h2;refine lP (RR:=fun acc C=>compPost (model X.prog X.w) X.A X.xe (some (assign (.Name x px) X.env)) (fun _ s'=>SP X pins D .next s') acc C) hc S hg ht he I2 T st2 f2 hcw fun D' C s5 H4 m I5 hm fo q=>?_;obtain ⟨o,es,ep,ho,hd,hr⟩:=id hm;have IP:Inv X (pins++ic [C] s5.heap) σ H4 s5:=I5.pinned (fp:=[C]) (fun b hb=>by rw [zq2.mp hb];exact fo) fun b hb=>by rw [zq2.mp hb];exact zn o ho fun v z=>by rw [hd] at z;cases z
 show wpAny _ _ (assign (.Name x px) X.env (.ref D')) _ _ s5;refine thn (tO (X:=X) (i:=i) hN hx hl (.inl hf) _ s5 σ H4 (.ref D') (.ref D') (fun σ' H'=>σ'=σ.set i (some (.ref D'))/\H'=H4) IP rfl ⟨rfl,rfl⟩) fun _ s6 hhx=>?_;obtain ⟨σ6,H6,I6,e1,e2⟩:=hhx;subst e1 e2;have hC6:s6.heap.get? C=some o:=(I6.pin (C,o) (dC _ (dC _ (cP (zq2.mpr rfl) ho)))).1;refine zn m (zAN o es ep hC6 hd hr) fun h' hs'=>zAD _ _ ?_ q;exact I6.unpinned.turned (t':=s6.toks) (it:=C) (fun b o hb e=>(hs'.2 b hb).trans e) fo.1 fo.2.1 fo.2.2.2.1 fo.2.2.2.2.1 fo.2.2.2.2.2
def w9(scope osc:Scope):List (Str×NameKind):=scope.names.map fun (n,k)=>if (k==NameKind.free&&osc.kind==.function&&osc.names.lookup n==some .cell) then (n,NameKind.cell) else (n,k)
def jR(N:List Str)(names:List (Str×NameKind)):List Str->List Nat->Bool
 | [],[]=>true
 |x::xs,i::is=>N[i]?==some x&&names.any (fun y=>y.1==x&&y.2==.free)&&jR N names xs is
 |_,_=>false
def GQ(osc:Scope)(N:List Str)(scope:Scope)(cns:List Str)(ci:List Nat):Bool:=
 scope.kind==.function&&scope.names.all (fun y=>y.2 != .cell)&&scope.names.all (fun y=>y.2 != .local || scope.names.lookup y.1==some .local) &&
 scope.names.all (fun y=>y.2 != .free || (osc.names.lookup y.1==some .cell || osc.names.lookup y.1==some .free))&&jR N scope.names cns ci &&
 scope.names.all (fun y=>y.2 != .free || (w9 scope osc).lookup y.1 != some .local)
theorem j4{N:List Str}{names:List (Str×NameKind)}:∀{cns:List Str} {ci:List Nat},jR N names cns ci=true->cns.length=ci.length/\∀(j:Nat)x,cns[j]?=some x->∃i,ci[j]?=some i/\N[i]?=some x/\(x,NameKind.free)∈names
 | [],[],_=>⟨rfl,fun j x e=>by simp at e⟩
 | [],_::_,h=>by simp [jR] at h
 |_::_,[],h=>by simp [jR] at h
 |x::xs,i::is,h=>by
  unfold jR at h;rw [dB,dB] at h;obtain ⟨⟨h1,h2⟩,h3⟩:=h;obtain ⟨l,r⟩:=j4 h3;refine ⟨by simp [l],fun j y e=>?_⟩
  cases j with
  |zero=>
   have e':x=y:=by simpa using e
   subst e';refine zAC i Jz (by simpa using h1) ?_;obtain ⟨z,hz,hq⟩:=zq78.mp h2;rw [dB] at hq;obtain ⟨a,b⟩:=z;have e1:a=x:=by simpa using hq.1
   have e2:b=.free:=by simpa using hq.2
   subst e1 e2;exact hz
  |succ j=>obtain ⟨k,hk⟩:=r j y (by simpa using e);exact zn k (by simpa using hk.1) hk.2
theorem CompSc.of{X:Cx}{scope:Scope}{cns:List Str}{ci:List Nat}(h:GQ X.env.scope X.N scope cns ci=true):CompSc X scope cns ci:=by
 unfold GQ at h;rw [dB,dB,dB,dB,dB] at h;obtain ⟨⟨⟨⟨⟨h1,h2⟩,h3⟩,h4⟩,h5⟩,h6⟩:=h;obtain ⟨l,r⟩:=j4 h5;refine ⟨by simpa using h1,fun y hy=>?_,fun y hy hk=>?_,fun y hy hk=>?_,r,l,fun y hy z=>?_⟩
 ·simpa using zq36.mp h2 y hy
 ·have:=zq36.mp h3 y hy;rw [nP] at this;rcases this with q | q
  ·exact absurd hk (by simpa using q)
  ·simpa using q
 ·have:=zq36.mp h4 y hy;rw [nP,nP] at this;rcases this with q | q | q
  ·exact absurd hk (by simpa using q)
  ·exact .inl (show X.env.scope.names.lookup y.1=_ by simpa using q)
  ·exact .inr (show X.env.scope.names.lookup y.1=_ by simpa using q)
 ·have:=zq36.mp h6 _ hy;rw [nP] at this;rcases this with q | q
  ·simp at q
  ·have z':(w9 scope X.env.scope).lookup y=some .local:=z;have q':((w9 scope X.env.scope).lookup y != some .local)=true:=q;rw [z'] at q';exact absurd q' Jx
section
variable {K:W.Frag} {g:TG} {tt:TT} {te:TE} {nt:Nat} {ci:List Nat} {σ:St} {acc:Addr} {Q:Hp->Prop} {H0:Hp}
theorem eF{a:Addr}{xs:List V}(Pv:Nat->List V->Hp->Prop)(h0:Pv 0 [] H0)(hl:∀i ys H,i<=xs.length->Pv i ys H->SqL K H a xs)
  (hs:∀(i:Nat)x ys H os,xs[i]?=some x->os.length=nt->Pv i ys H->g x (aL os ci σ) H fun σ1 H1=>(∃os',os'.length=nt/\σ1=aL os' ci σ)/\tt σ1 H1 fun b H2=>if b=true then te σ1 H2 fun z H3=>H3 acc=some (.lst ys)/\ys.length<sizeLine/\Pv (i+1) (ys++[z]) (upd H3 acc (.lst (ys++[z]))) else Pv (i+1) ys H2)
  (hd:∀ys H,Pv xs.length ys H->Q H):ce (Itl K a) g tt te nt ci σ acc Q H0:=by
 refine zn (fun i m ys H=>m=xs.length-i/\i<=xs.length/\Pv i ys H) (zAC xs.length Jz (cm _) h0) ?_;rintro i m ys H ⟨rfl,hi,p⟩;have q:=hl i ys H hi p
 by_cases hlt:i<xs.length
 ·refine .inr ⟨zAD xs (xs[i]) q (by simp [hlt]),zn (Pv (i+1)) (fun ys' H' p'=>zAF (xs.length-(i+1)) Jy rfl hlt p') fun y H' os ho yl=>?_⟩;obtain ⟨rfl,yl⟩:=yl;exact hs i y ys H' os (yl xs q) ho p
 ·have e:i=xs.length:=by omega
  subst e;exact .inl ⟨zn xs q (zq0 _),hd ys H p⟩
theorem Ea{a:Addr}{xs:List V}(Pv:Nat->List V->Hp->Prop)(h0:Pv 0 [] H0)(hl:∀i ys H,i<=xs.length->Pv i ys H->SqT K H a xs)
  (hs:∀(i:Nat)x ys H os,xs[i]?=some x->os.length=nt->Pv i ys H->g x (aL os ci σ) H fun σ1 H1=>(∃os',os'.length=nt/\σ1=aL os' ci σ)/\tt σ1 H1 fun b H2=>if b=true then te σ1 H2 fun z H3=>H3 acc=some (.lst ys)/\ys.length<sizeLine/\Pv (i+1) (ys++[z]) (upd H3 acc (.lst (ys++[z]))) else Pv (i+1) ys H2)
  (hd:∀ys H,Pv xs.length ys H->Q H):ce (Itt K a) g tt te nt ci σ acc Q H0:=by
 refine zn (fun i m ys H=>m=xs.length-i/\i<=xs.length/\Pv i ys H) (zAC xs.length Jz (cm _) h0) ?_;rintro i m ys H ⟨rfl,hi,p⟩;have q:=hl i ys H hi p
 by_cases hlt:i<xs.length
 ·refine .inr ⟨zAD xs (xs[i]) q (by simp [hlt]),zn (Pv (i+1)) (fun ys' H' p'=>zAF (xs.length-(i+1)) Jy rfl hlt p') fun y H' os ho yl=>?_⟩;obtain ⟨rfl,yl⟩:=yl;exact hs i y ys H' os (yl xs q) ho p
 ·have e:i=xs.length:=by omega
  subst e;exact .inl ⟨zn xs q (zq0 _),hd ys H p⟩
theorem oE{lo:Int}{n:Nat}(Pv:Nat->List V->Hp->Prop)(h0:Pv 0 [] H0)
  (hs:∀(i:Nat)ys H os,i<n->os.length=nt->Pv i ys H->g (.int (lo+i)) (aL os ci σ) H fun σ1 H1=>(∃os',os'.length=nt/\σ1=aL os' ci σ)/\tt σ1 H1 fun b H2=>if b=true then te σ1 H2 fun z H3=>H3 acc=some (.lst ys)/\ys.length<sizeLine/\Pv (i+1) (ys++[z]) (upd H3 acc (.lst (ys++[z]))) else Pv (i+1) ys H2)
  (hd:∀ys H,Pv n ys H->Q H):ce (Itr lo n) g tt te nt ci σ acc Q H0:=by
 refine zn (fun i m ys H=>m=n-i/\i<=n/\Pv i ys H) (zAC n Jz (cm _) h0) ?_;rintro i m ys H ⟨rfl,hi,p⟩
 by_cases hlt:i<n
 ·refine .inr ⟨hlt,zn (Pv (i+1)) (fun ys' H' p'=>zAF (n-(i+1)) Jy rfl hlt p') fun y H' os ho yl=>?_⟩;obtain ⟨rfl,rfl⟩:=yl;exact hs i ys H' os hlt ho p
 ·have e:i=n:=by omega
  subst e;exact .inl ⟨zq0 _,hd ys H p⟩
end
end L2
namespace L2
def isiT:List String:=["int","bool","str","list","tuple","dict"]
inductive gS (K:W.Frag) (H:Hp):V->String->Prop where
 |non:gS K H .non "NoneType"
 |bl {b:Bool}:gS K H (.bl b) "bool"
 |int {i:Int}:gS K H (.int i) "int"
 |str {x:Str}:gS K H (.str x) "str"
 |lst {a:Addr} {xs:List V} (h:SqL K H a xs):gS K H (.ref a) "list"
 |tup {a:Addr} {xs:List V} (h:SqT K H a xs):gS K H (.ref a) "tuple"
 |dic {a:Addr} (h:IsD H a):gS K H (.ref a) "dict"
def j9(k T:String):Bool:=k==T || (k=="bool"&&T=="int")
def vU(K:W.Frag):List V->Hp->VK->Prop:=fun xs H Q=>∃x T k,xs=[x,.ty T]/\isiT.contains T=true/\gS K H x k/\Q (.bl (j9 k T)) H
section
variable {X:Cx}
theorem eS:eP X (.builtin "isinstance") (vU X.K):=by
 intro pins s σ H xs us Q I r h;obtain ⟨x,T,k,rfl,hT,hk,q⟩:=h;obtain ⟨u,v,rfl,ru,rv⟩:=zN r
 cases rv
 have hT':T="int"\/T="bool"\/T="str"\/T="list"\/T="tuple"\/T="dict":=by simpa [isiT] using hT
 have fin:∀{b:Bool},b=j9 k T->EP X pins σ Q (.bool b) s:=fun e=>zAA (.bl _) H I rfl (by rw [e];exact q)
 have finT:∀{b:Bool},b=j9 k T->EP X pins σ Q (.bool b) {s with toks:=s.toks+1}:=fun e=>zAA (.bl _) H (I.tok _) rfl (by rw [e];exact q)
 cases hk with
 |non=>
  cases ru
  rcases hT' with rfl | rfl | rfl | rfl | rfl | rfl
  ·exact IsiPair.NoneType_int (finT Jv)
  ·exact IsiPair.NoneType_bool (finT Jv)
  ·exact IsiPair.NoneType_str (finT Jv)
  ·exact IsiPair.NoneType_list (finT Jv)
  ·exact IsiPair.NoneType_tuple (finT Jv)
  ·exact IsiPair.NoneType_dict (finT Jv)
 |bl=>
  cases ru
  rcases hT' with rfl | rfl | rfl | rfl | rfl | rfl
  ·exact IsiPair.bool_int (fin Jv)
  ·exact IsiPair.bool_bool (fin Jv)
  ·exact IsiPair.bool_str (finT Jv)
  ·exact IsiPair.bool_list (finT Jv)
  ·exact IsiPair.bool_tuple (finT Jv)
  ·exact IsiPair.bool_dict (finT Jv)
 |int=>
  obtain ⟨t,rfl⟩:=ru;rcases hT' with rfl | rfl | rfl | rfl | rfl | rfl
  ·exact IsiPair.int_int (fin Jv)
  ·exact IsiPair.int_bool (finT Jv)
  ·exact IsiPair.int_str (finT Jv)
  ·exact IsiPair.int_list (finT Jv)
  ·exact IsiPair.int_tuple (finT Jv)
  ·exact IsiPair.int_dict (finT Jv)
 |str=>
  obtain ⟨t,rfl⟩:=ru;rcases hT' with rfl | rfl | rfl | rfl | rfl | rfl
  ·exact IsiPair.str_int (finT Jv)
  ·exact IsiPair.str_bool (finT Jv)
  ·exact IsiPair.str_str (fin Jv)
  ·exact IsiPair.str_list (finT Jv)
  ·exact IsiPair.str_tuple (finT Jv)
  ·exact IsiPair.str_dict (finT Jv)
 |lst hl=>
  cases ru
  obtain ⟨its,_,⟨o,n,e,c,_⟩,_⟩:=I.list hl;rcases hT' with rfl | rfl | rfl | rfl | rfl | rfl
  ·exact IsiPair.list_int e c (finT Jv)
  ·exact IsiPair.list_bool e c (finT Jv)
  ·exact IsiPair.list_str e c (finT Jv)
  ·exact IsiPair.list_list e c (fin Jv)
  ·exact IsiPair.list_tuple e c (finT Jv)
  ·exact IsiPair.list_dict e c (finT Jv)
 |tup hl=>
  cases ru
  obtain ⟨its,_,⟨o,e,c,_⟩,_⟩:=I.tuple hl;rcases hT' with rfl | rfl | rfl | rfl | rfl | rfl
  ·exact IsiPair.tuple_int e c (finT Jv)
  ·exact IsiPair.tuple_bool e c (finT Jv)
  ·exact IsiPair.tuple_str e c (finT Jv)
  ·exact IsiPair.tuple_list e c (finT Jv)
  ·exact IsiPair.tuple_tuple e c (fin Jv)
  ·exact IsiPair.tuple_dict e c (finT Jv)
 |dic hl=>
  cases ru
  obtain ⟨o,e,c⟩:=(Em I hl).1;rcases hT' with rfl | rfl | rfl | rfl | rfl | rfl
  ·exact IsiPair.dict_int e c (finT Jv)
  ·exact IsiPair.dict_bool e c (finT Jv)
  ·exact IsiPair.dict_str e c (finT Jv)
  ·exact IsiPair.dict_list e c (finT Jv)
  ·exact IsiPair.dict_tuple e c (finT Jv)
  ·exact IsiPair.dict_dict e c (fin Jv)
end
section
variable {H:Hp} {Q:VK} {σ:St} {D:dm} {K:W.Frag}
theorem BJ{wi:TI}{g:Bk->TG}{tt:Bk->TT}{te:Bk->TE}{nt:Nat}{ci:List Nat}:kJ wi g tt te nt ci σ H Q=wi σ H fun J H1=>∀acc,H1 acc=none->∀bk:Bk,ce J (g bk) (tt bk) (te bk) nt ci σ acc (fun H'=>Q (.ref acc) H') (upd H1 acc (.lst [])):=rfl
theorem vZ{i:Nat}{wi:TI}{g:Bk->TG}{tt:Bk->TT}{te:Bk->TE}{nt:Nat}{ci:List Nat}:kC i wi g tt te nt ci D σ H=wi σ H fun J H1=>∀acc,H1 acc=none->∀bk:Bk,ce J (g bk) (tt bk) (te bk) nt ci σ acc (fun H'=>D.nx (σ.set i (some (.ref acc))) H') (upd H1 acc (.lst [])):=rfl
theorem Ij{Q:Bool->Hp->Prop}:gO σ H Q=Q true H:=rfl
theorem tU{x:V}{T k:String}(hk:gS K H x k)(hT:isiT.contains T=true)(hf:∀k',gS K H x k'->k'=k):vU K [x,.ty T] H Q=Q (.bl (j9 k T)) H:=
 propext ⟨by rintro ⟨_,_,k',e,_,h2,q⟩;cases e;rw [hf k' h2] at q;exact q,by intro q;exact zAO x T k rfl hT hk q⟩
theorem r_isi_int_str{i:Int}:vU K [.int i,.ty "str"] H Q=Q (.bl false) H:=(tU (T:="str") .int Jv (fun k h=>by cases h;rfl)).trans (by rw [show j9 "int" "str"=false by decide +kernel])
theorem r_isi_str_str{x:Str}:vU K [.str x,.ty "str"] H Q=Q (.bl true) H:=(tU (T:="str") .str Jv (fun k h=>by cases h;rfl)).trans (by rw [show j9 "str" "str"=true by decide +kernel])
end
end L2
namespace L2
variable {p:Addr} {x:V}
section
variable {H:Hp} {Q:VK} {σ:St} {D:dm} {K:W.Frag}
theorem Ih{a:Addr}{lo hi:Option Int}:Hy K (.ref a) lo hi H Q=∃xs,SqT K H a xs/\¬(HT.sIx xs.length 0 lo=0/\HT.sIx xs.length xs.length hi=xs.length)/\∀p,H p=none->Q (.ref p) (upd H p (.tup (gM xs lo hi))):=propext ⟨by rintro ⟨_,xs,e1,h⟩;cases e1;exact ⟨xs,h⟩,by rintro ⟨xs,h⟩;exact zAD _ xs rfl h⟩
theorem HS:rIn K false x (.ref p) H Q=∃xs,(SqL K H p xs\/SqT K H p xs)/\bF x=true/\xs.all bF=true/\Q (.bl (inV x xs)) H:=propext ⟨by rintro ⟨_,xs,e1,h⟩;cases e1;exact ⟨xs,h⟩,by rintro ⟨xs,h⟩;exact zAD _ xs rfl h⟩
theorem yP:rIn K true x (.ref p) H Q=∃xs,(SqL K H p xs\/SqT K H p xs)/\bF x=true/\xs.all bF=true/\Q (.bl (!inV x xs)) H:=propext ⟨by rintro ⟨_,xs,e1,h⟩;cases e1;exact ⟨xs,h⟩,by rintro ⟨xs,h⟩;exact zAD _ xs rfl h⟩
end
theorem Paired.get{α β:Type}{F:α->β->Prop}:∀{l₁:List α} {l₂:List β} {i:Nat} {a:α},Paired F l₁ l₂->l₁[i]?=some a->∃b,l₂[i]?=some b/\F a b
 |_,_,_,_,.nil,e=>by simp at e
 |_,_,0,_,.cons h _,e=>by simp at e;subst e;exact zn _ rfl h
 |_,_,i+1,a,.cons _ t,e=>by obtain ⟨b,h1,h2⟩:=Paired.get (i:=i) (a:=a) t (by simpa using e);exact zn b (by simpa using h1) h2
theorem Paired.getR{α β:Type}{F:α->β->Prop}:∀{l₁:List α} {l₂:List β} {i:Nat} {b:β},Paired F l₁ l₂->l₂[i]?=some b->∃a,l₁[i]?=some a/\F a b
 |_,_,_,_,.nil,e=>by simp at e
 |_,_,0,_,.cons h _,e=>by simp at e;subst e;exact zn _ rfl h
 |_,_,i+1,b,.cons _ t,e=>by obtain ⟨a,h1,h2⟩:=Paired.getR (i:=i) (b:=b) t (by simpa using e);exact zn a (by simpa using h1) h2
theorem Same.updM{H0 H:Hp}{o:HO}(s:Same H0 H)(h:H0 p=none):Same H0 (L2.upd H p o):=fun b u e=>by rw [ao (am e h)];exact s b u e
theorem Same.updN{H0 H:Hp}{o:HO}(s:Same H0 H)(h:H p=none):Same H0 (L2.upd H p o):=s.updM (s.free h)
theorem kc{b:Bool}{A B:Prop}(h1:b=true->A)(h2:b=false->B):if b=true then A else B:=by
 cases b
 ·rw [if_neg zq3];exact h2 rfl
 ·rw [if_pos rfl];exact h1 rfl
theorem Ec{CX:CXT}{P:Program}{w:World}{K:W.Frag}{mg:Str->Option Value}{base:Heap}{N:List Str}{qual:Str}{scope:Scope}{f:Addr}{cd:Value}{A:Around}{outer:List Env}{s:Shared}{H:Hp}{E:XK}:(qU CX P w K mg base N qual scope f cd A outer s H E).K=K:=rfl
theorem GC{X:Cx}{E:Value->Shared->Prop}:(X.wish E).K=X.K:=rfl
theorem GP{X:Cx}{N':List Str}{scope:Scope}{b:Bk}:(X.blk N' scope b).K=X.K:=rfl
theorem EZ{o:Option V}{ci:List Nat}{σ:St}:aL [o] ci σ=none::o::ci.map fun i=>(σ[i]?).join:=rfl
theorem F0{o o':Option V}{ci:List Nat}{σ:St}:aL [o,o'] ci σ=none::o::o'::ci.map fun i=>(σ[i]?).join:=rfl
theorem kh{n k:Nat}{P:Prop}(h:¬HT.sIx n 0 (some (k:Int))=0):¬(HT.sIx n 0 (some (k:Int))=0/\P):=fun z=>h z.1
def k9:V->Bool
 | .str _=>true
 |_=>false
theorem dI{n:Str}:∀{ns:List Str},inV (.str n) (ns.map V.str)=decide (n∈ns)
 | []=>by simp [inV]
 |m::ns=>by
  have ih:=dI (n:=n) (ns:=ns);unfold inV at ih ⊢;rw [d9,qF,ih];have e:eqV (.str m) (.str n)=decide (m=n):=by unfold eqV;rfl
  rw [e]
  by_cases h1:m=n
  ·subst h1;simp
  ·have h2:¬n=m:=fun z=>h1 z.symm;simp [h1,h2]
theorem gr:∀{ns:List Str},(ns.map V.str).all bF=true
 | []=>rfl
 |n::ns=>by rw [d9,sE,gr];rfl
section
variable {K:W.Frag} {tt:TT} {te:TE} {ci:List Nat} {σ:St} {acc:Addr} {Q:Hp->Prop} {H1:Hp} {a:Addr} {xs:List V}
theorem vh(p:V->Bool)(f:V->V){x:V}{ys:List V}{H:Hp}{os:List (Option V)}{i:Nat}{Pv:Nat->List V->Hp->Prop}(ho:os.length=1)(hi:xs[i]?=some x)
  (hp:∀Q',Q' (p x) H->tt (aL [some x] ci σ) H Q') (hf:∀Q',p x=true->Q' (f x) H->te (aL [some x] ci σ) H Q') (hacc:H acc=some (.lst ys)) (hlen:ys.length<sizeLine)
  (h1:p x=true->Pv (i+1) (ys++[f x]) (upd H acc (.lst (ys++[f x])))) (h2:p x=false->Pv (i+1) ys H) :
  bD 1 x (aL os ci σ) H fun σ1 H1=>(∃os',os'.length=1/\σ1=aL os' ci σ)/\tt σ1 H1 fun b H2=>if b=true then te σ1 H2 fun z H3=>H3 acc=some (.lst ys)/\ys.length<sizeLine/\Pv (i+1) (ys++[z]) (upd H3 acc (.lst (ys++[z]))) else Pv (i+1) ys H2:=by
 have e:(aL os ci σ).set 1 (some x)=aL [some x] ci σ:=by
  match os,ho with
  | [o],_=>rfl
 show (∃os',os'.length=1/\(aL os ci σ).set 1 (some x)=aL os' ci σ)/\tt ((aL os ci σ).set 1 (some x)) H _;rw [e];refine ⟨zn ([some x]) rfl rfl,hp _ ?_⟩
 cases hb:p x with
 |true=>rw [if_pos rfl];exact hf _ hb (zAB hacc hlen (h1 hb))
 |false=>rw [if_neg zq3];exact h2 hb
theorem cN{p:V->Bool}{f:V->V}{xs:List V}{i:Nat}(hi:xs[i]?=some x):((xs.take (i+1)).filter p).map f=((xs.take i).filter p).map f++(if p x=true then [f x] else []):=by
 obtain ⟨h,e⟩:=zq10.mp hi;rw [eg h,e,uL,cy];congr 1
 cases hb:p x<;>simp [hb]
theorem oX{p:V->Bool}{f:V->V}{xs:List V}{i:Nat}(hi:xs[i]?=some x)(hz:xs.length<=sizeLine):(((xs.take i).filter p).map f).length<sizeLine:=by obtain ⟨h,e⟩:=zq10.mp hi;rw [zq1];have:=A5 p (xs.take i);rw [dS] at this;omega
theorem AX{J:It}(p:V->Bool)(f:V->V)(hz:xs.length<=sizeLine)(hacc:H1 acc=none)
 (hJ:∀(Pv:Nat->List V->Hp->Prop),Pv 0 [] (upd H1 acc (.lst []))->(∀i ys H,Pv i ys H->∃ys',H=upd H1 acc (.lst ys'))->
 (∀(i:Nat)x ys H os,xs[i]?=some x->os.length=1->Pv i ys H->bD 1 x (aL os ci σ) H fun σ1 H1=>(∃os',os'.length=1/\σ1=aL os' ci σ)/\tt σ1 H1 fun b H2=>
 if b=true then te σ1 H2 fun z H3=>H3 acc=some (.lst ys)/\ys.length<sizeLine/\Pv (i+1) (ys++[z]) (upd H3 acc (.lst (ys++[z]))) else Pv (i+1) ys H2)->
 (∀ys H,Pv xs.length ys H->Q H)->ce J (bD 1) tt te 1 ci σ acc Q (upd H1 acc (.lst [])))
 (hp:∀x∈xs,∀H Q',Same H1 H->Q' (p x) H->tt (aL [some x] ci σ) H Q') (hf:∀x∈xs,∀H Q',Same H1 H->p x=true->Q' (f x) H->te (aL [some x] ci σ) H Q')
 (q:Q (upd H1 acc (.lst ((xs.filter p).map f)))):ce J (bD 1) tt te 1 ci σ acc Q (upd H1 acc (.lst [])):=by
 refine hJ (fun i ys H=>ys=((xs.take i).filter p).map f/\H=upd H1 acc (.lst ys)) ⟨Jz,rfl⟩ (fun i ys H h=>⟨ys,h.2⟩) ?_ ?_
 ·rintro i x ys H os hi ho ⟨rfl,rfl⟩;have hm:=zq9 hi;refine vh (xs:=xs) (Pv:=fun i ys H=>ys=((xs.take i).filter p).map f/\H=upd H1 acc (.lst ys)) p f ho hi (fun Q' h=>hp x hm _ _ (Same.upd hacc) h) (fun Q' hb h=>hf x hm _ _ (Same.upd hacc) hb h) ac (oX hi hz) (fun hb=>?_) (fun hb=>?_)
  ·rw [cN hi,if_pos hb];exact ⟨rfl,by rw [Cc]⟩
  ·rw [cN hi,if_neg (by rw [hb];exact zq3),gQ];exact ⟨rfl,rfl⟩
 ·rintro ys H ⟨rfl,rfl⟩;rw [eE];exact q
theorem oC(p:V->Bool)(f:V->V)(hz:xs.length<=sizeLine)(hl:SqT K H1 a xs)(hacc:H1 acc=none)
  (hp:∀x∈xs,∀H Q',Same H1 H->Q' (p x) H->tt (aL [some x] ci σ) H Q') (hf:∀x∈xs,∀H Q',Same H1 H->p x=true->Q' (f x) H->te (aL [some x] ci σ) H Q')
  (q:Q (upd H1 acc (.lst ((xs.filter p).map f)))):ce (Itt K a) (bD 1) tt te 1 ci σ acc Q (upd H1 acc (.lst [])):=
 AX p f hz hacc (fun Pv h0 hH hs hd=>Ea Pv h0 (fun i ys H _ h=>by obtain ⟨ys',rfl⟩:=hH i ys H h;exact (Same.upd hacc).seqT hl) hs hd) hp hf q
end
end L2
end
namespace FB
open PySem L2
inductive Opd where
 |box (n:Str)
 |word (i:Int)
 deriving DecidableEq
def Opd.v:Opd->V
 | .box n=>.str n
 | .word i=>.int i
def Opd.reads:Opd->List Str
 | .box n=>[n]
 | .word _=>[]
inductive Deed where
 |tell (a:Opd)
 |copy (d:Str) (a:Opd)
 |op (f d:Str) (a b:Opd)
 deriving DecidableEq
def opsL:List Str:=["plus","less","and","or","xor","below","same"]
def Deed.vs:Deed->List V
 | .tell a=>[.str "tell",a.v]
 | .copy d a=>[.str "copy",.str d,a.v]
 | .op f d a b=>[.str f,.str d,a.v,b.v]
def Deed.fine:Deed->Prop
 | .op f _ _ _=>f∈opsL
 |_=>True
def Deed.reads:Deed->List Str
 | .tell a=>a.reads
 | .copy _ a=>a.reads
 | .op _ _ a b=>a.reads++b.reads
def Deed.writes:Deed->List Str
 | .tell _=>[]
 | .copy d _=>[d]
 | .op _ d _ _=>[d]
def Deed.tells:Deed->Bool
 | .tell _=>true
 |_=>false
def jv(one other:Deed):Option Int:=
 if one.tells=true/\other.tells=true then some 1
 else if ∃n∈one.writes,n∈other.reads\/n∈other.writes then some 1
 else if ∃n∈other.writes,n∈one.reads then some 0 else none
def nq:Option Int->V
 |none=>.non
 |some i=>.int i
end FB
section
open PySem PySem.Spec PyProof.Rows
namespace L2
section
variable {X:Cx}
theorem C9{pins:List (Addr×Obj)}{σ:St}{H:Hp}{s:Shared}(I:Inv X pins σ H s):(s.heap.objs.size==sysModules)=false:=by have:=I.big;simp only [beq_eq_false_iff_ne,ne_eq];exact fun e=>by rw [e] at this;exact absurd this (nN _)
theorem mK:eP X (.type "dict") (fun xs H Q=>∃p kvs,xs=[.ref p]/\Rd H p (.dK kvs)/\∀l,H l=none->Q (.ref l) (upd H l (.dK kvs))):=by
 intro pins s σ H xs us Q I r h;obtain ⟨p,kvs,rfl,hq,q⟩:=h;obtain ⟨u,rfl,rx⟩:=iS r
 cases rx
 obtain ⟨z,hd,vs,rel,dd⟩:=gX I.hok hq;refine kt_call_dict hd dd (by rw [<- rel.length];exact z) fun h' hm hs=>?_;have hk:∀b o,s.heap.get? b=some o->h'.get? b=some o:=fun b o e=>(hs.2 b (cx (zq7 e))).trans (bX _ e);exact zAA (.ref s.heap.objs.size) _ (I.laid (t':=s.toks) hk (zq0 _) (qV z (C9 I) rel hm)) rfl (q _ (I.hok.fresh (zq0 _)))
def vf(ka kb:List (Key×V)):Bool:=ka.length==kb.length&&ka.all fun kv=>match bE kb kv.1 with | none=>false | some y=>eqV kv.2 y
theorem Iv{kvs:List (Key×V)}{vs:List (Key×Value)}(r:KV kvs vs)(k:Key):(bE kvs k=none/\valueAt vs k=none)\/∃v u,bE kvs k=some v/\valueAt vs k=some u/\RelV v u:=by
 induction r with
 |nil=>exact .inl ⟨rfl,rfl⟩
 | @cons a b l1 l2 h t ih=>
  obtain ⟨h1,h2⟩:=h
  by_cases e:a.1=k
  ·refine .inr (zAA a.2 b.2 (bU e) ?_ h2);unfold valueAt;rw [List.find?_cons];simp [h1.symm.trans e]
  ·rw [bO e];have e':valueAt (b::l2) k=valueAt l2 k:=by unfold valueAt;rw [List.find?_cons];have:¬b.1=k:=fun z=>e (h1.trans z);simp [this]
   rw [e'];exact ih
theorem mT{A:Around}{s:Shared}{kb:List (Key×V)}{wb:List (Key×Value)}(rb:KV kb wb)(fb:kb.all (fun kv=>bF kv.2)=true):∀{ka:List (Key×V)} {wa:List (Key×Value)},KV ka wa->ka.all (fun kv=>bF kv.2)=true->
  W.KeqHits A s wb wa (ka.all fun kv=>match bE kb kv.1 with | none=>false | some y=>eqV kv.2 y)
 |_,_,.nil,_=>.nil
 |a::ka,b::wa,.cons ⟨h1,h2⟩ t,hf=>by
  rw [sE,dB] at hf;rw [sE];rcases Iv rb a.1 with ⟨e1,e2⟩ | ⟨v,u,e1,e2,r⟩
  ·rw [e1];obtain ⟨k,y⟩:=b;have hk:a.1=k:=h1;subst hk;rw [zY];exact .miss e2
  ·rw [e1];obtain ⟨k,y⟩:=b;have hk:a.1=k:=h1;subst hk;refine .hit e2 ?_ (mT rb fb t hf.2);have fv:bF v=true:=by
    have hm:∃kv∈kb,kv.2=v:=by unfold bE at e1;obtain ⟨kv,hkv,e⟩:=zq32.mp e1;exact zn kv (DS hkv) e
    obtain ⟨kv,hm,rfl⟩:=hm;exact zq36.mp fb kv hm
   exact mN h2 r hf.1 fv
def BG:R2:=fun x y H Q=>∃a b ka kb,x=.ref a/\y=.ref b/\Rd H a (.dK ka)/\Rd H b (.dK kb)/\ka.all (fun kv=>bF kv.2)=true/\kb.all (fun kv=>bF kv.2)=true/\Q (.bl (vf ka kb)) H
theorem vN(hu:X.A.units<cLine):OpR X (compareOp .Eq) BG:=by
 intro pins s σ H x y v u Q I rx ry h;obtain ⟨a,b,ka,kb,rfl,rfl,ha,hb,fa,fb,q⟩:=h
 cases rx;cases ry
 obtain ⟨za,hda,va,ra,da⟩:=gX I.hok ha;obtain ⟨zb,hdb,vb,rb,db⟩:=gX I.hok hb;refine W.keq_eq hda hdb da db hu (fun _=>mT rb fb ra fa) ?_;rw [<- ra.length,<- rb.length];exact zAA (.bl _) H I rfl q
theorem vg{ka:List (Key×V)}(hn:(ka.map (·.1)).Nodup)(hf:ka.all (fun kv=>bF kv.2)=true):vf ka ka=true:=by
 unfold vf;rw [beq_self_eq_true,AA,zq36];intro kv hm;have e:bE ka kv.1=some kv.2:=by
  clear hf
  induction ka with
  |nil=>cases hm
  |cons p r ih=>
   rw [d9,zq25] at hn;rcases zq5.mp hm with rfl | hm
   ·exact bU rfl
   ·rw [bO (fun z=>hn.1 (by rw [z];exact zq23.mpr (zn kv hm rfl)))];exact ih hn.2 hm
 rw [e];exact xp (zq36.mp hf kv hm)
end
end L2
namespace L2
variable {H:Hp} {sc:Scope} {σ:St}
section
variable {X:Cx} {x:Str} {p pos:Pos} {e:Expr} {es:List Expr} {t:TA} {id T:String} {r:List V->Hp->VK->Prop}
theorem qv(i:Nat){x:Str}{pos:Pos}(hv:Vis X.env.scope x)(hN:X.N[i]?=some x:=by rfl)(hd:(x==("__debug__":Str))=false:=by kernel_rfl) (hcd:(x==("__classdict__":Str))=false:=by kernel_rfl):PE X (.Name x pos) (Gy i):=EO hN hv hd hcd
theorem vl{x:Str}(h:sc.names.lookup x=some .local:=by kernel_rfl):Vis sc x:=.inl h
theorem vc{x:Str}(h:sc.names.lookup x=some .cell:=by kernel_rfl):Vis sc x:=.inr (.inl h)
theorem ll{x:Str}(h:sc.names.lookup x=some .local:=by kernel_rfl):Loc sc x:=.inl h
theorem lc{x:Str}(h:sc.names.lookup x=some .cell:=by kernel_rfl):Loc sc x:=.inr h
theorem gl{X:Cx}{x:Str}(h:X.env.scope.names.lookup x=some .globalImplicit:=by kernel_rfl):Gl X x:=h
theorem ng{x:Str}(h:(x==("__name__":Str))=false:=by kernel_rfl):x≠"__name__":=fun z=>by subst z;exact absurd h Jv
theorem yz{k:Nat}{f:Addr}{fd:FuncData}{ps:List Str}{sp:Sp}{x:Str}{st:Stmt}{p pos:Pos}{e:Expr}{es:List Expr}{t:TA}(D:bu X.K X.mg x st ps f fd)(G:FnOk X.prog X.w X.K X.mg X.base CX0 k f fd ps sp)(hr:Room k X.A)
  (ha:PA X (e::es) t) (hg:Gl X x) (hdb:(x==("__debug__":Str))=false:=by kernel_rfl) (he:starEach (e::es) X.env=(false,eval e X.env)::starEach es X.env:=by rfl) (hpl:(backTo pos (starEach es X.env)).any (·.1)=false:=by rfl) :
  PE X (.Call (.Name x p) (e::es) [] pos) (qr sp [] E0 t):=ym D G hr ha hg hdb he hpl
def qT:Expr->Option V
 | .Constant (.int i) _ _=>some (.int i)
 | .Constant (.str x) _ _=>some (.str x)
 | .Constant (.bool b) _ _=>some (.bl b)
 | .Constant .none _ _=>some .non
 |_=>none
def jJ:List Expr->Option (List V)
 | []=>some []
 |e::es=>(qT e).bind fun v=>(jJ es).map fun vs=>v::vs
def tVs(vs:List V):TA:=fun _ H Q=>Q vs H
theorem uZ{e:Expr}{v:V}(h:qT e=some v):PE X e (tC v)/\∀es,starEach (e::es) X.env=(false,eval e X.env)::starEach es X.env:=by
 unfold qT at h
 split at h
 ·cases h;exact ⟨yp,fun _=>rfl⟩
 ·cases h;exact ⟨yu,fun _=>rfl⟩
 ·cases h;exact ⟨CB,fun _=>rfl⟩
 ·cases h;exact ⟨yt,fun _=>rfl⟩
 ·cases h
theorem pJ:∀{es:List Expr} {vs:List V},jJ es=some vs->PA X es (tVs vs)
 | [],_,h=>by cases h;exact yj
 |e::es,vs,h=>by unfold jJ at h;obtain ⟨v,h1,h2⟩:=Option.bind_eq_some_iff.mp h;obtain ⟨ws,h3,h4⟩:=zq32.mp h2;subst h4;obtain ⟨p1,p2⟩:=uZ (X:=X) h1;exact tM p1 (pJ h3) (p2 es)
theorem IV{vs:List V}{Z:List V->Hp->Prop}:tVs vs σ H Z=Z vs H:=rfl
theorem BM{Q:VK}:zz σ H Q=∀p,H p=none->Q (.ref p) (upd H p (.dK [])):=rfl
theorem F5{td ty tv:TE}{D:dm}:zj td ty tv D σ H=tv σ H fun v H1=>td σ H1 fun x H2=>ty σ H2 fun y H3=>∃a H4,x=.ref a/\DPut H3 a y v H4/\D.nx σ H4:=rfl
theorem Fc{c:Addr}{Z:Addr->Hp->Prop}:(∃a H4,V.ref c=.ref a/\Z a H4)=∃H4,Z c H4:=propext ⟨by rintro ⟨_,H4,e,q⟩;cases e;exact ⟨H4,q⟩,by rintro ⟨H4,q⟩;exact zAD c H4 rfl q⟩
theorem Fg{to ti:TE}{ts:wV}{v:V}{Q:St->Hp->Prop}:Eg to ti ts v σ H Q=to σ H fun o H1=>ti σ H1 fun i H2=>ts o i v H2 fun H3=>Q σ H3:=rfl
def Gw(t u:TS):TS:=fun D σ H=>∃Mid:St->Hp->Prop,t {D with nx:=Mid} σ H/\∀σ' H',Mid σ' H'->u D σ' H'
theorem yM{ta tb:TS}{D:dm}:Gw ta tb D σ H=∃Mid:St->Hp->Prop,ta {D with nx:=Mid} σ H/\∀σ' H',Mid σ' H'->tb D σ' H':=rfl
end
end L2
namespace L2
variable {dx:Addr}
structure KlsAt(K:W.Frag)(mg:Str->Option Value)(x:Str)(C:Addr):Prop where
 cl:Cls K C
 mks:W.makesIn K C=true
 kp:W.keepIn K (.ref C)=true
 M:mg x=some (.ref C)
structure bj(K:W.Frag)(C:Addr)(m qual:Str)(st:Stmt)(ps:List Str)(f:Addr)(fd:FuncData):Prop where
 F:Fun K m qual st f fd
 B:Binds K fd ps []
 M:uT K C m f
theorem KlsAt.make{K:W.Frag}{mg:Str->Option Value}{x qual:Str}{C f:Addr}{st:Stmt}{ps:List Str}{fd:FuncData}(c:KlsAt K mg x C)(m:bj K C "__init__" qual st ps f fd):Mk K C f:=⟨c.mks,m.M.at_,m.M.fn,c.kp⟩
section
variable {X:Cx} {k:Nat} {f C:Addr} {fd:FuncData} {ps:List Str} {sp:Sp} {x m qual:Str} {st:Stmt} {p pos apos:Pos} {e o:Expr} {es:List Expr} {ta:TE} {t:TA}
theorem yB(c:KlsAt X.K X.mg x C)(D:bj X.K C "__init__" qual st ps f fd) (G:FnOk X.prog X.w X.K X.mg X.base CX0 k f fd ps sp) (hr:Room (k+1) X.A)
  (ha:PA X (e::es) t) (hg:Gl X x) (hdb:(x==("__debug__":Str))=false:=by kernel_rfl) (he:starEach (e::es) X.env=(false,eval e X.env)::starEach es X.env:=by rfl) (hpl:(backTo pos (starEach es X.env)).any (·.1)=false:=by rfl) :
  PE X (.Call (.Name x p) (e::es) [] pos) (kM C sp [] E0 t):=BC (c.make D) G hr hg c.M D.B .nil pK ha hdb he hpl
theorem yC{pl:Sem Bool}(c:Cls X.K C)(D:bj X.K C m qual st ps f fd)(G:FnOk X.prog X.w X.K X.mg X.base CX0 k f fd ps sp)(hr:Room k X.A)(he:PE X o ta)(ha:PA X (e::es) t)
  (hst:starEach (e::es) X.env=(false,eval e X.env)::starEach es X.env:=by rfl) (hpl:(backTo pos (starEach es X.env)).any (·.1)=false:=by rfl)
  (ht:eval (.Call (.Attribute o m apos) (e::es) [] pos) X.env=(do
   let ov <- eval o X.env
   standAt apos.atName
   let (f,first) <- holding [ov] (getMethod ov m pl)
   callWith pos f first (backTo pos (starEach (e::es) X.env)) (backToKw pos (keywordEach [] X.env))):=by rfl) :
  PE X (.Call (.Attribute o m apos) (e::es) [] pos) (iR C m sp [] E0 ta t):=tN he c D.M G hr D.B .nil pK ha hst hpl ht
theorem vT{pl:Sem Bool}(c:Cls X.K C)(D:bj X.K C m qual st ps f fd)(G:FnOk X.prog X.w X.K X.mg X.base CX0 k f fd ps sp)(hr:Room k X.A)(he:PE X o ta)
  (ht:eval (.Call (.Attribute o m apos) [] [] pos) X.env=(do
   let ov <- eval o X.env
   standAt apos.atName
   let (f,first) <- holding [ov] (getMethod ov m pl)
   callWith pos f first (backTo pos (starEach [] X.env)) (backToKw pos (keywordEach [] X.env))):=by rfl) :
  PE X (.Call (.Attribute o m apos) [] [] pos) (iR C m sp [] E0 ta lj):=yr he c D.M G hr D.B .nil pK ht
end
section
variable {H:Hp} {Q:VK} {σ:St} {D:dm} {K:W.Frag}
def wU(K:W.Frag)(x:V)(f:Str)(y:V)(H:Hp)(Z:Hp->Prop):Prop:=∃a C dx fs,x=.ref a/\H a=some (.ins C dx fs)/\Cls K C/\NoAttr K C f/\fs.length<1000/\Z (upd H a (.ins C dx (dc f y fs)))
def i5(K:W.Frag)(x:V)(f:Str)(H:Hp)(Q:VK):Prop:=∃a C dx fs v,x=.ref a/\H a=some (.ins C dx fs)/\Cls K C/\NoAttr K C f/\fs.lookup f=some v/\Q v H
def jM(C:Addr)(m:Str)(x:V)(H:Hp)(Z:Prop):Prop:=∃a dx fs,x=.ref a/\H a=some (.ins C dx fs)/\fs.lookup m=none/\Z
def GK(C:Addr)(sp:Sp)(vs:List V)(H:Hp)(Q:VK)(E:XK):Prop:=∀x dx,H x=none->H dx=none->dx≠x->sp (.ref x::vs) (upd (upd H dx (.own x)) x (.ins C dx [])) (fun v H2=>v=.non/\Q (.ref x) H2) E
theorem FJ{ta tv:TE}{f:Str}:Il K ta tv f D σ H=tv σ H fun y H1=>ta σ H1 fun x H2=>wU K x f y H2 (D.nx σ):=rfl
theorem Fi{ta:TE}{f:Str}:Ip K ta f σ H Q=ta σ H fun x H1=>i5 K x f H1 Q:=rfl
theorem FC{C:Addr}{m:Str}{sp:Sp}{E:XK}{ta:TE}{t:TA}:iR C m sp [] E ta t σ H Q=ta σ H fun x H1=>jM C m x H1 (t σ H1 fun vs H2=>sp (x::vs) H2 Q E):=by unfold iR jM;simp only [List.append_nil]
theorem Fz{C:Addr}{sp:Sp}{E:XK}{t:TA}:kM C sp [] E t σ H Q=t σ H fun vs H1=>GK C sp vs H1 Q E:=by unfold kM GK;simp only [List.append_nil]
theorem fk{p C:Addr}{fs:List (Str×V)}{f:Str}{y:V}{Z:Hp->Prop}(e:H p=some (.ins C dx fs))(c:Cls K C)(n:NoAttr K C f)(l:fs.length<1000)(h:Z (upd H p (.ins C dx (dc f y fs)))):wU K (.ref p) f y H Z:=zBA p C dx fs rfl e c n l h
theorem bZ{p C:Addr}{fs:List (Str×V)}{f:Str}{v:V}(e:H p=some (.ins C dx fs))(c:Cls K C)(n:NoAttr K C f)(l:fs.lookup f=some v)(h:Q v H):i5 K (.ref p) f H Q:=zAW p C dx fs v rfl e c n l h
theorem bq{p C:Addr}{fs:List (Str×V)}{m:Str}{Z:Prop}(e:H p=some (.ins C dx fs))(l:fs.lookup m=none)(h:Z):jM C m (.ref p) H Z:=zAO p dx fs rfl e l h
end
end L2
namespace L2
section
variable {K:W.Frag} {h:Heap} {mg:Str->Option Value}
abbrev fnS (x qual:Str) (st:Stmt) (kV doc pm:Value) (an:Option Addr) (cdv ct:Value):FuncData:=W.fnOf x qual (dH st) (di st) (ay st) .none kV doc pm an cdv ct
abbrev qN (x qual:Str) (st:Stmt) (ps:List Str):Prop:=∀(kV doc pm:Value)(an:Option Addr)(cdv ct:Value)(us:List Value),us.length=ps.length->bindArgs (fnS x qual st kV doc pm an cdv ct) ⟨us,[]⟩=pure (ps.zip us)
theorem cA{x:Str}{st:Stmt}{ps:List Str}{f:Addr}{oc:Value}{od an:Option Addr}{osl:Array (Option Value)}{kV doc pm cdv ct:Value}(X:K.In h)(G:h.Ns mainGlobals mg)(a:W.nsIn K mainGlobals x=some (some (.ref f)))
  (l:K.lookup f=some ⟨oc,od,.func (W.fnOf x x (dH st) (di st) (ay st) .none kV doc pm an cdv ct),osl⟩) (c:W.codeIn K cdv x=true) (k:W.keepIn K (.ref f)=true) (b:qN x x st ps):bu K mg x st ps f (W.fnOf x x (dH st) (di st) (ay st) .none kV doc pm an cdv ct):=
 ⟨mO l c k,(mO l c k).binds b,W.mg_of X G a⟩
theorem eo{C:Addr}{x qual:Str}{st:Stmt}{ps:List Str}{f:Addr}{oc:Value}{od an:Option Addr}{osl:Array (Option Value)}{kV doc pm cdv ct:Value}(a:W.findIn K (.ref C) x=some (some (.ref f)))(i:W.isFn K (.ref f)=true)
  (l:K.lookup f=some ⟨oc,od,.func (W.fnOf x qual (dH st) (di st) (ay st) .none kV doc pm an cdv ct),osl⟩) (c:W.codeIn K cdv qual=true) (k:W.keepIn K (.ref f)=true) (b:qN x qual st ps):bj K C x qual st ps f (W.fnOf x qual (dH st) (di st) (ay st) .none kV doc pm an cdv ct):=
 ⟨mO l c k,(mO l c k).binds b,⟨a,i,k⟩⟩
theorem xj{x:Str}{C:Addr}(X:K.In h)(G:h.Ns mainGlobals mg)(a:W.nsIn K mainGlobals x=some (some (.ref C)))(h1:W.plainGet K C Str.empty=true)(h2:W.hasDictIn K C=true)(h3:W.plainOver K C=true)
  (h4:W.findIn K (.ref C) "__setattr__"=some (some (.builtin "object.__setattr__"))) (h5:W.makesIn K C=true) (h6:W.keepIn K (.ref C)=true):KlsAt K mg x C:=⟨⟨h1,h2,h3,h4⟩,h5,h6,W.mg_of X G a⟩
end
section
variable {x qual p q r s t u:Str} {st:Stmt}
theorem bn1(h:∀kV doc pm an cdv ct a,bindArgs (fnS x qual st kV doc pm an cdv ct) ⟨[a],[]⟩=pure [(p,a)]):qN x qual st [p]:=fun kV doc pm an cdv ct us hl=>by
 match us,hl with
 | [a],_=>exact h kV doc pm an cdv ct a
theorem bn2(h:∀kV doc pm an cdv ct a b,bindArgs (fnS x qual st kV doc pm an cdv ct) ⟨[a,b],[]⟩=pure [(p,a),(q,b)]):qN x qual st [p,q]:=fun kV doc pm an cdv ct us hl=>by
 match us,hl with
 | [a,b],_=>exact h kV doc pm an cdv ct a b
theorem bn3(h:∀kV doc pm an cdv ct a b c,bindArgs (fnS x qual st kV doc pm an cdv ct) ⟨[a,b,c],[]⟩=pure [(p,a),(q,b),(r,c)]):qN x qual st [p,q,r]:=fun kV doc pm an cdv ct us hl=>by
 match us,hl with
 | [a,b,c],_=>exact h kV doc pm an cdv ct a b c
theorem bn4(h:∀kV doc pm an cdv ct a b c d,bindArgs (fnS x qual st kV doc pm an cdv ct) ⟨[a,b,c,d],[]⟩=pure [(p,a),(q,b),(r,c),(s,d)]):qN x qual st [p,q,r,s]:=fun kV doc pm an cdv ct us hl=>by
 match us,hl with
 | [a,b,c,d],_=>exact h kV doc pm an cdv ct a b c d
theorem bn5(h:∀kV doc pm an cdv ct a b c d e,bindArgs (fnS x qual st kV doc pm an cdv ct) ⟨[a,b,c,d,e],[]⟩=pure [(p,a),(q,b),(r,c),(s,d),(t,e)]):qN x qual st [p,q,r,s,t]:=fun kV doc pm an cdv ct us hl=>by
 match us,hl with
 | [a,b,c,d,e],_=>exact h kV doc pm an cdv ct a b c d e
end
end L2
namespace L2
section
variable {X:Cx}
end
end L2
namespace L2
theorem tw:∀{ns:List Int} {its:List Value},Vals (ns.map V.int) its->IntsAre its ns
 | [],_,.nil=>.nil
 |n::ns,_,.cons h t=>by obtain ⟨tk,rfl⟩:=h;exact .cons _ _ (tw t)
section
variable {X:Cx}
def tV(K:W.Frag):List V->Hp->VK->Prop:=fun xs H Q=>∃(a:Addr)(ns:List Int),xs=[.ref a]/\SqL K H a (ns.map V.int)/\ns.length<64/\∀(l:Addr)(ns':List Int),H l=none->ns'.Perm ns->ns'.Pairwise (·<=·)->Q (.ref l) (upd H l (.lst (ns'.map V.int)))
theorem oA:eP X (.builtin "sorted") (tV X.K):=by
 intro pins s σ H xs us Q I r h;obtain ⟨a,ns,rfl,hq,h64,q⟩:=h;obtain ⟨u,rfl,ru⟩:=iS r
 cases ru
 obtain ⟨its,rv,pl,_⟩:=I.list hq;have hl:=rv.length;rw [zq1] at hl;refine sorted_ints (vs:=its) pl.isList (tw rv) Jy fun out ns' a1 a2 a3=>?_;obtain ⟨e,he⟩:=sortedAll_at s.heap its out;have hk:∀b o,s.heap.get? b=some o->(sortedAll s.heap its out).get? b=some o:=fun _ _=>sortedAll_old;refine zAA (.ref (s.heap.objs.size+1)) _ (I.laid (t':=s.toks) hk (Aw _) (show ObjOk X.prog X.w _ (sortedAll s.heap its out) _ (.lst (ns'.map V.int)) from ⟨?_,zAD out.toList e (je a1) ?_⟩)) rfl (q _ _ (I.hok.fresh (Aw _)) a2 a3)
 ·rw [zq1,a2.length_eq,sizeLine_eq];omega
 ·rw [Array.toArray_toList];exact he
theorem ow:∀{bs:List Bool} {its:List Value},Vals (bs.map V.bl) its->its=bs.map Value.bool
 | [],_,.nil=>rfl
 |b::bs,_,.cons h t=>by have e:_=Value.bool b:=h;rw [e,ow t];rfl
theorem w6{bs:List Bool}:(List.range bs.length).any (fun i=>bs.getD i true)=bs.any id:=by
 rw [qE,zq78,zq78]
 constructor
 ·rintro ⟨i,hi,h⟩;have hi:=zq40.mp hi;rw [fJ,zq8 hi] at h;exact zn _ (nQ hi) h
 ·rintro ⟨b,hb,h⟩;obtain ⟨i,hi,rfl⟩:=List.mem_iff_getElem.mp hb;refine zn i (zq40.mpr hi) ?_;rw [fJ,zq8 hi];exact h
def Hq(K:W.Frag):List V->Hp->VK->Prop:=fun xs H Q=>∃(a:Addr)(bs:List Bool),xs=[.ref a]/\SqL K H a (bs.map V.bl)/\Q (.bl (bs.any id)) H
theorem qA{P:Program}{w:World}{A:Around}{bs:List Bool}:TruthOf P w A (fun i v=>(bs.map Value.bool).toArray[i]?=some v) (fun i=>bs.getD i true):=by intro i v s Q E hv q;rw [uM,cn] at hv;obtain ⟨b,hb,rfl⟩:=zq32.mp hv;replace q:Q (bs.getD i true) s:=q;rw [fJ,hb] at q;exact wpAny_truthy_bool q
theorem oy(hc:X.calm=true):eP X (.builtin "any") (Hq X.K):=by
 intro pins s σ H xs us Q I r h;obtain ⟨a,bs,rfl,hq,q⟩:=h;obtain ⟨u,rfl,ru⟩:=iS r
 cases ru
 obtain ⟨its,rv,pl,_⟩:=I.list hq;obtain rfl:=ow rv;obtain ⟨o,ho,ro⟩:=pl.isList;have W:=Walks.list (prog:=X.prog) (w:=X.w) (A:=X.A.in1) (I.ok.hd hc) s.heap.objs.size a (cx (zq7 ho)) (bs.map Value.bool).toArray;refine call_any_walk (wpAny_pyIter_list pl.isList (zBO s.heap.objs.size _ _ _ _ _ (fun i=>bs.getD i true) (zAI rfl W ⟨zAC _ (dA _ rfl) rfl rfl,pl.isList.push _⟩ qA fun h' tk hk=>?_)));have e:(bs.map Value.bool).toArray.size=bs.length:=by simp
 rw [e,w6];exact zAA (.bl _) H (I.kept (t':=tk) fun b ob hb=>hk b ob (fun z=>nN _ (by have:=zq7 hb;rw [zq2.mp z] at this;exact this)) (bX _ hb)) rfl q
end
end L2
namespace L2
open AutoSeq1 (wpAny_loadPart')
theorem uc:mroOf (.type "reversed")=pure [.type "reversed",.type "object"]:=by rw [mroOf_type];kernel_rfl
theorem C2:typeLookup (.type "reversed") "__new__"=pure (some (.builtin "reversed.__new__")):=by rw [typeLookup_type,builtinLookup_eq_fast];kernel_rfl
theorem ze:Bind.madeBy (.type "reversed")=pure (some "reversed.__new__"):=madeBy_type uc C2 Jv
theorem C3:isSubtype (.type "list_reverseiterator") (.type "reversed")=pure false:=by rw [isSubtype_type];kernel_rfl
theorem zf:isSubtype (.type "reversed") (.type "reversed")=pure true:=by rw [isSubtype_type];kernel_rfl
theorem we:entryFor table "reversed.__new__"=some Builtin.«reversed.__new__»:=entryFor_of_tree Jw
theorem i9(l:Addr)(items:Array Value)(n:Nat)(dct:Option Addr)(sl:Array (Option Value)):
  Meets (Builtin.«reversed.__new__» ⟨[.type "reversed",.ref l],[]⟩) (fun _ R s=>s.heap.get? l=some {cls:=.type "list",dict:=dct,data:=.seq items n,slots:=sl}/\
   R (.ok (.ret (.ref s.heap.objs.size))) {s with heap:=s.heap.push {cls:=.type "list_reverseiterator",data:=.fields #[.ref l,rawInt (((items.size:Nat):Int)-1)]}}):=
 .of_wp fun prog w A R s h=>by
  obtain ⟨hp,g,d,tk,os⟩:=s;obtain ⟨hl,h⟩:=h;have hsub:=zf;have hL:Heap.IsList (Shared.heap ⟨hp,g,d,tk,os⟩) l items:=zAC _ hl rfl ⟨n,rfl⟩
  wp_walk using wpAny_loadPart' hl
  refine wpAny_of_eq PySem.F.slot_list_reversed.lookup ?_;refine wpAny_bind ?_;unfold bindSpecial;refine wpAny_bind (wpAny_of_eq PySem.F.type_list_reversed ?_);rw [if_pos Jx];refine wpAny_pure ?_;show wpAny _ _ (if (Value.builtin "list.__reversed__"==Value.none)=true then _ else _) _ _ _;rw [if_neg Jx];refine wpAny_bind (wpAny_rule ?_);refine wpAny_bind ?_;show wpAny (model prog w) A.in1 (call (.builtin "list.__reversed__") [.ref l]) _ _ _;refine wpAny_call_entry PySem.F.slot_list_reversed hL.typeIs PySem.F.entry_list_reversed ?_ (PySem.F.args_list_reversed_1 _)
  wp_walk using wpAny_loadPart' hl
  exact zn _ rfl (wpAny_pure (zn _ rfl h))
def IsRev(h:Heap)(it l:Addr)(k:Int):Prop:=∃o,h.get? it=some o/\o.cls=.type "list_reverseiterator"/\o.data=.fields #[.ref l,.int k 0]
section
variable {prog:Program} {w:World} {A:Around} {E:Value->Shared->Prop} {s:Shared}
theorem dX{l:Addr}{items:Array Value}{Q:Value->Shared->Prop}(hL:s.heap.IsList l items)
  (h:∀h',IsRev h' s.heap.objs.size l (((items.size:Nat):Int)-1)->h'.objs.size=s.heap.objs.size+1->(∀b o,s.heap.get? b=some o->h'.get? b=some o)->Q (.ref s.heap.objs.size) {s with heap:=h'}) :
  wpAny (model prog w) A (call (.type "reversed") [.ref l]) Q E s:=by
 obtain ⟨⟨c,dct,dt,sl⟩,hl,hc,n,hd⟩:=hL;replace hc:c=.type "list":=hc;replace hd:dt=.seq items n:=hd;subst hc hd;have hmro:=uc;have hmade:=ze;have hsub:=C3;refine wpAny_call (codeAny_of_tree ?_);show wpAny _ _ (callAny (.type "reversed") _) _ _ _;refine wpAny_pure ⟨Code.quiet_builtin _ Jv,codeAny_builtin F.entry_type_call ?_⟩;rw [Around.under_plain (weight_type_call_type "reversed" [.ref l] []) (units_type_call_type "reversed" [.ref l] [])];have h1:(Value.type "reversed"==Value.type "type")=false:=by decide +kernel
 have h2:((Manifest.find? "reversed").bind (·.mro.findSome? fun t=>(Manifest.find? t).bind fun b=>if b.noNew then some true else if b.attrs.any (·.1=="__new__") then some false else none)).getD false=false:=by decide +kernel
 have hct:checkTypeCall "reversed" ⟨[.ref l],[]⟩=pure ():=by kernel_rfl
 have hcn:checkBuiltinCall "reversed.__new__" ⟨[.type "reversed",.ref l],[]⟩=pure ():=by kernel_rfl
 repeat (any_goals (first | assumption | wp_step))
 have key:=i9 l items n dct sl prog w A.in1 (wants (fun v s'=>v=.ref s.heap.objs.size/\s'={s with heap:=s.heap.push {cls:=.type "list_reverseiterator",data:=.fields #[.ref l,rawInt (((items.size:Nat):Int)-1)]}}) E) s (zAB hl rfl rfl);refine codeAny_mono (codeAny_call_builtin Jv we (wpAny_of_eq hcn key)) fun r s₁ hr=>?_
 cases r with
 |error e=>exact hr
 |ok fl=>
  cases fl with
  |ret obj=>
   obtain ⟨rfl,rfl⟩:=hr;have hT:Shared.TypeIs {s with heap:=s.heap.push {cls:=.type "list_reverseiterator",data:=.fields #[.ref l,rawInt (((items.size:Nat):Int)-1)]}} (.ref s.heap.objs.size) "list_reverseiterator":=zn _ (dA _ rfl) rfl
   repeat (any_goals (first | assumption | wp_step))
   exact h _ (zAC _ (dA _ rfl) rfl rfl) (lA ..) (fun b o x=>bX _ x)
  |_=>exact hr.elim
end
end L2
namespace L2
variable {it l:Addr}
theorem slot_rev_next:Slot "list_reverseiterator" "__next__" "list_reverseiterator.__next__":=
 .of (owner:="list_reverseiterator") (n:="__next__") (by rw [typeLookup_type,builtinLookup_eq_fast];kernel_rfl) Jv Jv Jv
  (by first | exact .inl Jv | exact .inr Jv) (by rw [isSubtype_type];kernel_rfl)
theorem i0:Slot "list_reverseiterator" "__iter__" "list_reverseiterator.__iter__":=
 .of (owner:="list_reverseiterator") (n:="__iter__") (by rw [typeLookup_type,builtinLookup_eq_fast];kernel_rfl) Jv Jv Jv
  (by first | exact .inl Jv | exact .inr Jv) (by rw [isSubtype_type];kernel_rfl)
theorem fP:entryFor table "list_reverseiterator.__next__"=some Builtin.«list_reverseiterator.__next__»:=entryFor_of_tree Jw
theorem jW:entryFor table "list_reverseiterator.__iter__"=some Builtin.«dict_keyiterator.__iter__»:=
 entryFor_alias (id':="dict_keyiterator.__iter__") Jw (by first | rfl | decide +kernel | (unfold String.splitOn;simp +decide [String.splitOnAux])) Jv Jw
theorem gU(a:Value):argsOk "list_reverseiterator.__next__" ⟨[a],[]⟩:=by unfold argsOk;kernel_rfl
theorem kS(a:Value):argsOk "list_reverseiterator.__iter__" ⟨[a],[]⟩:=by unfold argsOk;kernel_rfl
theorem IsRev.typeIs{s:Shared}{k:Int}(x:IsRev s.heap it l k):s.TypeIs (.ref it) "list_reverseiterator":=let ⟨o,ho,hc,_⟩:=x;(zn o ho hc)
section
variable {prog:Program} {w:World} {A:Around} {E:Value->Shared->Prop} {s:Shared}
theorem fB{k:Int}{Q:Value->Shared->Prop}(hi:IsRev s.heap it l k)(h:Q (.ref it) s):wpAny (model prog w) A (pyIter (.ref it)) Q E s:=by refine wpAny_pyIter_slot hi.typeIs i0 (wpAny_call_entry i0 hi.typeIs jW ?_ (kS _));show wpAny _ _ (ret (.ref it)) _ _ s;exact wpAny_pure (zn _ rfl (zAA ("list_reverseiterator") _ hi.typeIs slot_rev_next.lookup h))
theorem fL{i:Nat}{items:Array Value}{x:Value}{Q:Option Value->Shared->Prop}(hit:IsRev s.heap it l (i:Int))(hl:s.heap.IsList l items)(hx:items[i]?=some x)
 (hQ:∀h',IsRev h' it l ((i:Int)-1)->Heap.SameBut it s.heap h'->Q (some x) {s with heap:=h'}):wpAny (model prog w) A (pyNext (.ref it)) Q E s:=by
 obtain ⟨o,ho,hc,hd⟩:=id hit;obtain ⟨ol,hol,_,nl,hdl⟩:=hl;unfold pyNext;refine wpAny_bind (wpAny_attempt (wpAny_callSpecial?_slot (name:=Str.ofString "__next__") hit.typeIs slot_rev_next (wpAny_call_entry slot_rev_next hit.typeIs fP ?_ (gU _))));show wpAny _ _ (field (.ref it) 1 >>= _) _ _ s;refine wpAny_bind (wpAny_field ho hd (x:=.int i 0) rfl ?_);show wpAny _ _ (if (i:Int)<0 then _ else _) _ _ s;rw [if_neg Jy];show wpAny _ _ (field (.ref it) 0 >>= _) _ _ s;refine wpAny_bind (wpAny_field ho hd (x:=.ref l) rfl ?_);show wpAny _ _ (seqItems? (.ref l) >>= _) _ _ s;refine wpAny_bind (wpAny_seqItems hol hdl ?_);simp only [Int.toNat_natCast,hx];refine wpAny_bind (wpAny_setField ho hd Jz (wpAny_pure (zn x rfl (wpAny_pure (hQ _ ?_ (Heap.SameBut.update ..))))));exact zAC _ (uI _ ho (Obj.isFreed_of_fields (Obj.data_mapFields hd _))) ((Obj.cls_mapFields ..).trans hc) (by rw [Obj.data_mapFields hd];simp [rawInt])
theorem fV{Q:Option Value->Shared->Prop}(hh:A.handled=none)(hit:IsRev s.heap it l (-1))
 (hQ:∀h',Heap.ExtBut it s.heap h'->Q none {s with heap:=h'}):wpAny (model prog w) A (pyNext (.ref it)) Q E s:=by
 obtain ⟨o,ho,hc,hd⟩:=id hit;unfold pyNext;refine wpAny_bind (wpAny_attempt (wpAny_callSpecial?_slot (name:=Str.ofString "__next__") hit.typeIs slot_rev_next (wpAny_call_entry slot_rev_next hit.typeIs fP ?_ (gU _))));show wpAny _ _ (field (.ref it) 1 >>= _) _ _ s;refine wpAny_bind (wpAny_field ho hd (x:=.int (-1) 0) rfl ?_);show wpAny _ _ (if (-1:Int)<0 then _ else _) _ _ s;rw [if_pos Jx];refine wpAny_bind (wpAny_rule ?_);refine wpAny_bind ?_;show wpAny _ _ (newExc (.type "StopIteration") [] >>= _) _ _ _;refine wpAny_bind ?_;simp only [newExc,newTuple];refine wpAny_bind (wpAny_newObj_type ?_ (by size_fits));refine wpAny_bind (m:=firstArgMember _ _) (wpAny_of_eq (a:=Value.none) (by first | rfl | (simp only [firstArgMember];rfl)) ?_);refine wpAny_newObj_type ?_ (by size_fits);simp only [raiseNew];refine wpAny_bind (wpAny_handled ?_);rw [show A.in1.handled=none from hh];refine wpAny_bind (wpAny_pure (wpAny_throw ?_));refine wpAny_bind (wpAny_isInstance (T:="StopIteration") (b:=true) ⟨_,dA _ rfl,rfl⟩ isSubtype_stop ?_);exact wpAny_pure (hQ _ (fun b o _ e=>bX _ (bX _ e)))
end
end L2
namespace L2
def Itv(K:W.Frag)(a:Addr)(n:Nat):It:=
 ⟨fun i H=>∃xs,SqL K H a xs/\xs.length=n/\i<n,fun i H x H'=>H'=H/\∀xs,SqL K H a xs->xs.reverse[i]?=some x,fun i _=>n<=i⟩
theorem FM{α:Type}{xs:List α}{i:Nat}(h:i<xs.length):xs.reverse[i]?=xs[xs.length-1-i]?:=by rw [uO h]
theorem IsRev.keep{h h':Heap}{it l:Addr}{k:Int}(x:IsRev h it l k)(hk:∀o,h.get? it=some o->h'.get? it=some o):IsRev h' it l k:=let ⟨o,ho,r⟩:=x;(zn o (hk o ho) r)
theorem zI{P:Program}{w:World}{K:W.Frag}{tg:Expr}(a it:Addr)(n:Nat):kR P w K tg (Itv K a n) [it] it (fun i h=>i<=n/\IsRev h it a ((n:Int)-1-(i:Nat))) where
 mem:=by simp
 obj:=fun i h st b hb=>by
  have e:b=it:=by simpa using hb
  subst e;obtain ⟨_,o,e,c,d⟩:=st;exact zn o e fun v z=>by rw [d] at z;cases z
 keep:=fun i h h' st k=>⟨st.1,st.2.keep fun o e=>k it Jz o e⟩
 item:=by
  intro X hP hw hK hc i pins s σ H E I hf st hg;subst hP hw hK;obtain ⟨xs,hq,hn,hi⟩:=hg;subst hn;obtain ⟨x,hx⟩:∃x,xs[xs.length-1-i]?=some x:=⟨_,zq8 Jy⟩
  obtain ⟨its,rv,p,hz⟩:=I.list hq;obtain ⟨u,hu,ru⟩:=rv.get hx;obtain ⟨f0,f1,f2,f3,f4,f5⟩:=hf it Jz;have st0:IsRev s.heap it a ((xs.length-1-i:Nat):Int):=by have:=st.2;rw [show ((xs.length:Int)-1-(i:Nat))=((xs.length-1-i:Nat):Int) by omega] at this;exact this
  refine fL st0 p.isList (x:=u) (by simpa using hu) fun h' st' sb=>?_;have I1:Inv X pins σ H {s with heap:=h'}:=I.turned (t':=s.toks) (fun b o hb e=>(sb.2 b hb).trans e) f0 f1 f3 f4 f5;obtain ⟨o,e,c,d⟩:=id st';have st2:IsRev h' it a ((xs.length:Int)-1-((i+1:Nat):Int)):=by rw [show ((xs.length:Int)-1-((i+1:Nat):Int))=((xs.length-1-i:Nat):Int)-1 by omega];exact st'
  exact zn u rfl (tq (s:={s with heap:=h'}) e c d Jx (zAT x H I1 ru ⟨rfl,fun ys hy=>by rw [I.list_inj hy hq,FM hi];exact hx⟩ ⟨hi,st2⟩ fun b hb=>(hf b hb).1))
 done:=by
  intro X hP hw hK hc i pins s σ H E I hf st hg;subst hP hw hK;obtain ⟨f0,f1,f2,f3,f4,f5⟩:=hf it Jz;have hg':n<=i:=hg;have e:i=n:=Nat.le_antisymm st.1 hg';have st0:IsRev s.heap it a (-1):=by have:=st.2;rw [show ((n:Int)-1-(i:Nat))=-1 by omega] at this;exact this
  exact fV (I.ok.hd hc) st0 fun h' eb=>⟨rfl,I.turned (t':=s.toks) (fun b o hb e=>eb b o hb e) f0 f1 f3 f4 f5⟩
 self:=fun _ _ _ _ _ st h=>fB st.2 h
def Ek(K:W.Frag)(ta:TA):TI:=fun σ H R=>ta σ H fun vs H1=>∃a xs,vs=[.ref a]/\SqL K H1 a xs/\R (Itv K a xs.length) H1
theorem ER{X:Cx}{tg a:Expr}{ta:TA}{p pos:Pos}(hm:X.mg "reversed"=none) (ha:PA X [a] ta) (hg:Gl X "reversed":=by rfl) (hs:starEach [a] X.env=[(false,eval a X.env)]:=by rfl) :
  PI X tg (.Call (.Name "reversed" p) [a] [] pos) (Ek X.K ta):=by
 intro pins s σ H R I h;refine Call_ (dZ I hg hm boot_reversed (PyProof.Rows.callWith_type1 (thn (ha pos pins s σ H _ I h) fun us s1 hhx=>?_) hs rfl));obtain ⟨vs,H1,I1,r1,q1⟩:=hhx;obtain ⟨l,xs,e,hq,q⟩:=q1;subst e
 cases r1 with
 |cons r rr=>
  cases rr
  cases r
  obtain ⟨its,rv,pl,hz⟩:=I1.list hq;have hlen:=rv.length;refine dX pl.isList fun h' hit hsz hk=>?_;refine fB hit ?_;have I2:Inv X pins σ H1 {s1 with heap:=h'}:=I1.kept (t':=s1.toks) hk;refine zAW s1.heap.objs.size ([s1.heap.objs.size]) _ _ H1 rfl I2 (zI l _ xs.length) ⟨cm _,?_⟩ (fun b hb=>?_) q
  ·have e:(((its.toArray.size:Nat):Int)-1)=((xs.length:Int)-1-((0:Nat):Int)):=by simp [hlen]
   rw [e] at hit;exact hit
  ·rw [zq2.mp hb];exact I1.fpOk (zq0 _) (I1.hok.fresh (zq0 _))
section
variable {g:TG} {tb:TS} {D:dm} {σ:St} {H:Hp}
theorem Fj{K:W.Frag}{ta:TA}{R:It->Hp->Prop}:Ek K ta σ H R=ta σ H fun vs H1=>∃a xs,vs=[.ref a]/\SqL K H1 a xs/\R (Itv K a xs.length) H1:=rfl
theorem Ee{K:W.Frag}{a:Addr}{xs:List V}(Pv:Nat->St->Hp->Prop)(h0:Pv 0 σ H)(hl:∀i σ H,i<=xs.length->Pv i σ H->SqL K H a xs)
  (hs:∀(i:Nat)x σ H,xs.reverse[i]?=some x->Pv i σ H->g x σ H fun σ2 H2=>tb {D with nx:=Pv (i+1),ct:=Pv (i+1),bk:=D.nx} σ2 H2) (hd:∀σ H,Pv xs.length σ H->D.nx σ H):nW (Itv K a xs.length) g tb D σ H:=by
 refine zn (fun i m σ H=>m=xs.length-i/\i<=xs.length/\Pv i σ H) (zAC xs.length Jz (cm _) h0) ?_;rintro i m σ H ⟨rfl,hi,p⟩;have q:=hl i σ H hi p
 by_cases hlt:i<xs.length
 ·refine .inr ⟨zAC xs q rfl hlt,zn (Pv (i+1)) (fun σ' H' p'=>zAF (xs.length-(i+1)) Jy rfl hlt p') fun x H' y=>?_⟩;obtain ⟨eH,y⟩:=y;subst eH;exact hs i x σ H' (y xs q) p
 ·have e:i=xs.length:=by omega
  subst e;exact .inl ⟨zq0 _,hd σ H p⟩
end
end L2
namespace L2
theorem wf:typeLookup (.type "list_reverseiterator") "__len__"=pure none:=by rw [typeLookup_type,builtinLookup_eq_fast];kernel_rfl
theorem zd:typeLookup (.type "list_reverseiterator") "__length_hint__"=pure (some (.builtin "list_reverseiterator.__length_hint__")):=by rw [typeLookup_type,builtinLookup_eq_fast];kernel_rfl
section
variable {prog:Program} {w:World} {A:Around} {E:Value->Shared->Prop} {s:Shared}
theorem xB{r:Addr}{Q:Bool->Shared->Prop}(hT:s.TypeIs (.ref r) "list_reverseiterator") (h:Q false s):wpAny (model prog w) A (Builtin.List.listLengthHint (.ref r)) Q E s:=by
 unfold Builtin.List.listLengthHint;refine wpAny_bind (wpAny_specialOf hT wf ?_);refine wpAny_ite_split (fun hab=>absurd hab Jx) (fun _=>?_);refine wpAny_ite_split (fun hab=>absurd hab Jx) (fun _=>?_);refine wpAny_bind (wpAny_specialOf hT zd ?_);generalize hid:("list_reverseiterator.__length_hint__":String)=id0
 wp_delta
 rw [show splitId id0=some ("list_reverseiterator","__length_hint__") from by subst hid;decide +kernel];subst hid;refine wpAny_bind (wpAny_isInstance (T:="list_reverseiterator") (b:=true) hT (by rw [isSubtype_type];kernel_rfl) ?_);refine wpAny_ite_split (fun hab=>absurd hab Jx) (fun _=>?_);refine wpAny_ite_split (fun _=>?_) (fun hab=>absurd Jv hab);refine wpAny_ite_split (fun hab=>absurd hab Jv) (fun _=>?_);exact wpAny_pure h
theorem wA(hh:A.handled=none)(it l:Addr)(hne:it≠l)(items:Array Value):Walks prog w A it [it,l] [it] items.size (fun i v=>items[items.size-1-i]?=some v) (fun i h=>i<=items.size/\IsRev h it l ((items.size:Int)-1-(i:Nat))/\h.IsList l items) where
 sub:=by intro b hb;rw [zq2.mp hb];simp
 frame:=fun i h h' st k=>zAB st.1 (st.2.1.keep fun o e=>k it Jz o e) (let ⟨o,ho,r⟩:=st.2.2;(zn o (k l Jz o ho) r))
 item:=by
  intro i s Q E hi st hQ;obtain ⟨x,hx⟩:∃x,items[items.size-1-i]?=some x:=⟨_,DT Jy⟩
  have st0:IsRev s.heap it l ((items.size-1-i:Nat):Int):=by have:=st.2.1;rw [show ((items.size:Int)-1-(i:Nat))=((items.size-1-i:Nat):Int) by omega] at this;exact this
  refine fL st0 st.2.2 hx fun h' st' sb=>hQ x h' s.toks hx (zAB hi ?_ ?_) (fun b o hb e=>(sb.2 b (fun z=>hb (by simp [z]))).trans e)
  ·rw [show ((items.size:Int)-1-((i+1:Nat):Int))=((items.size-1-i:Nat):Int)-1 by omega];exact st'
  ·obtain ⟨o,ho,r⟩:=st.2.2;exact zn o ((sb.2 l (Ne.symm hne)).trans ho) r
 done:=by
  intro s Q E st hQ;have st0:IsRev s.heap it l (-1):=by have:=st.2.1;rw [show ((items.size:Int)-1-((items.size:Nat):Int))=-1 by omega] at this;exact this
  exact fV hh st0 fun h' eb=>hQ h' s.toks (fun b o hb e=>eb b o (fun z=>hb (by simp [z])) e)
 self:=fun i s Q E st h=>fB st.2.1 h
theorem B5{R:Result->Shared->Prop}{it l S:Addr}{items:Array Value}(hh:A.handled=none)(hit:IsRev s.heap it l ((items.size:Int)-1))(hL:s.heap.IsList l items)(hil:it≠l)(hSi:S≠it)(hSl:S≠l)(res:Value)(c₀:Nat)(hS:s.heap.get? S=some {cls:=.type "list",data:=.seq #[] c₀})
  (hR:∀h' tk acc' c',(∀b o,b≠S->b≠it->s.heap.get? b=some o->h'.get? b=some o)->h'.get? S=some {cls:=.type "list",dict:=none,data:=.seq acc' c',slots:=#[]}->ItemsOf (fun i v=>items[items.size-1-i]?=some v) acc' items.size->R (.ok (.ret res)) {s with heap:=h',toks:=tk}) (hn:items.size<=sizeLine) :
  wpAny (model prog w) A.in1 (Builtin.List.listExtendWith (.ref S) (.ref it) res)
   (fun fin s'=>match fin with | .done f=>R (.ok f) s' | .again c'=>c'.quiet=true/\codeAny (model prog w) A c' R s') (fun e s'=>R (.error e) s') s:=by
 have W:=wA (prog:=prog) (w:=w) (A:=A.in1) hh it l hil items;have hSf:S∉[it,l]:=by simp only [List.mem_cons,List.not_mem_nil,or_false,not_or];exact ⟨hSi,hSl⟩
 have st0:(0:Nat)<=items.size/\IsRev s.heap it l ((items.size:Int)-1-((0:Nat):Int))/\s.heap.IsList l items:=zAB (cm _) (by rw [show ((items.size:Int)-1-((0:Nat):Int))=(items.size:Int)-1 by omega];exact hit) hL
 unfold Builtin.List.listExtendWith;refine wpAny_bind (wpAny_typeOf (T:="list_reverseiterator") hit.typeIs ?_);have h1:Builtin.List.listSameRef (.ref S) (.ref it)=false:=by simp [Builtin.List.listSameRef,hSi]
 have n1:(Value.type "list_reverseiterator"==Value.type "list")=false:=by decide
 have n2:(Value.type "list_reverseiterator"==Value.type "tuple")=false:=by decide
 simp only [h1,n1,n2,Bool.or_false,Bool.false_eq_true,if_false];refine wpAny_bind (fB hit ?_);refine wpAny_bind (wpAny_holding (xB hit.typeIs ?_));refine wpAny_ite_split (fun hab=>absurd hab Jv) (fun _=>wpAny_pure ⟨plainId_quiet PySem.F.plain_extend_loop _,?_⟩);refine codeAny_extend_loopS W.toS hn S hSf res items.size 0 _ #[] c₀ rfl (cm _) st0 hS (ItemsOf.nil _) fun s' acc' c' hm hS' hacc=>?_;rw [Moved.eq_with hm];refine hR s'.heap s'.toks acc' c' (fun b o hb hb2 e=>hm.heap b o (fun hmem=>?_) e) hS' hacc;rcases zq5.mp hmem with e' | hmem
 ·exact hb e'
 ·exact hb2 (zq2.mp hmem)
theorem kT{it l:Addr}{items:Array Value}{Q:Value->Shared->Prop}(hh:A.handled=none)(hit:IsRev s.heap it l ((items.size:Int)-1))(hL:s.heap.IsList l items)(hil:it≠l)(hn:items.size<=sizeLine)
  (hQ:∀h' tk acc' c',(∀b o,b≠it->s.heap.get? b=some o->h'.get? b=some o)->h'.get? s.heap.objs.size=some {cls:=.type "list",dict:=none,data:=.seq acc' c',slots:=#[]}->ItemsOf (fun i v=>items[items.size-1-i]?=some v) acc' items.size->Q (.ref s.heap.objs.size) {s with heap:=h',toks:=tk}) :
  wpAny (model prog w) A (call (.type "list") [.ref it]) Q E s:=by
 refine callType_codes (Q₁:=fun obj s₁=>obj=.ref s.heap.objs.size/\s₁={s with heap:=s.heap.push {cls:=.type "list",data:=.seq #[]}}) PySem.F.called_list (PySem.F.typeCall_list_1 _) PySem.F.entry_list_init
  (code_list_new _ ⟨rfl,rfl⟩) fun obj s₁ h₁=>?_
 obtain ⟨rfl,rfl⟩:=h₁;have hS:(s.heap.push {cls:=.type "list",data:=.seq #[]}).get? s.heap.objs.size=some {cls:=.type "list",data:=.seq #[]}:=dA _ rfl;obtain ⟨oi,hoi,ri⟩:=id hit;obtain ⟨ol,hol,rl⟩:=id hL;have li:=zq7 hoi;have ll:=zq7 hol;refine zAB (zn _ hS rfl) (PySem.F.args_list_init_2 _ _) ?_;show wpAny _ _ (do let old <- Builtin.List.listItems (.ref s.heap.objs.size);Builtin.List.listUpdate (.ref s.heap.objs.size) (fun _=>#[]);letGo old.toList.reverse;Builtin.List.listExtendWith (.ref s.heap.objs.size) (.ref it) .none) _ _ _;refine wpAny_bind ?_;unfold Builtin.List.listItems;refine wpAny_bind (wpAny_seqItems hS rfl (wpAny_pure ?_));show wpAny _ _ (updateSeq s.heap.objs.size (fun _=>#[]) >>= fun _=>letGo (#[]:Array Value).toList.reverse >>= fun _=>Builtin.List.listExtendWith (.ref s.heap.objs.size) (.ref it) .none) _ _ _;refine wpAny_bind (wpAny_updateSeq hS rfl ?_);have hS₂:=uI (Obj.mapSeq (fun _=>(#[]:Array Value))) hS rfl;have oth:∀b o,b≠s.heap.objs.size->(s.heap.push {cls:=.type "list",data:=.seq #[]}).get? b=some o->((s.heap.push {cls:=.type "list",data:=.seq #[]}).update s.heap.objs.size (Obj.mapSeq (fun _=>(#[]:Array Value)))).get? b=some o:=
  fun b o hb e=>(A2 _ _ (Ne.symm hb)).trans e
 have ki:∀b o,s.heap.get? b=some o->((s.heap.push {cls:=.type "list",data:=.seq #[]}).update s.heap.objs.size (Obj.mapSeq (fun _=>(#[]:Array Value)))).get? b=some o:=fun b o e=>oth b o (cx (zq7 e)) (bX _ e);refine wpAny_bind (wpAny_letGo ?_);refine B5 (A:=A.in1) hh (zn oi (ki _ _ hoi) ri) (zn ol (ki _ _ hol) rl) hil (lu li) (lu ll) .none _ hS₂ (fun h' tk acc' c' hk hS' hacc=>?_) hn;exact ⟨rfl,hQ h' tk acc' c' (fun b o hb e=>hk b o (cx (zq7 e)) hb (ki b o e)) hS' hacc⟩
end
end L2
namespace L2
theorem Paired.app{α β:Type}{F:α->β->Prop}:∀{l₁:List α} {l₂:List β} {m₁:List α} {m₂:List β},Paired F l₁ l₂->Paired F m₁ m₂->Paired F (l₁++m₁) (l₂++m₂)
 |_,_,_,_,.nil,h=>h
 |_,_,_,_,.cons h t,h2=>.cons h (Paired.app t h2)
theorem Paired.rev{α β:Type}{F:α->β->Prop}:∀{l₁:List α} {l₂:List β},Paired F l₁ l₂->Paired F l₁.reverse l₂.reverse
 |_,_,.nil=>.nil
 |_,_,.cons h t=>by rw [A6,A6];exact Paired.app (Paired.rev t) (.cons h .nil)
theorem vo{its:List Value}{acc:Array Value}(h:ItemsOf (fun i v=>its.toArray[its.toArray.size-1-i]?=some v) acc its.toArray.size):acc=its.reverse.toArray:=by
 obtain ⟨h1,h2⟩:=h;apply Array.ext_getElem?;intro j;have e1:its.toArray.size=its.length:=by simp
 rw [e1] at h1 h2
 by_cases hj:j<acc.size
 ·have z:=h2 j acc[j] (by simp [hj]);rw [DT hj,uM,uO Jy];have z2:its.toArray[its.length-1-j]?=some acc[j]:=z;rw [uM] at z2;exact z2.symm
 ·rw [Array.getElem?_eq_none Jy,uM,AB (by simp;omega)]
def kL(K:W.Frag)(ta:TA):TE:=fun σ H Q=>ta σ H fun vs H1=>∃a xs,vs=[.ref a]/\SqL K H1 a xs/\∀l,H1 l=none->Q (.ref l) (upd H1 l (.lst xs.reverse))
theorem rJ{X:Cx}{a:Expr}{ta:TA}{p p2 pos pos2:Pos}(hc:X.calm=true)(hm:X.mg "list"=none) (hm2:X.mg "reversed"=none) (ha:PA X [a] ta) (hg:Gl X "list") (hg2:Gl X "reversed") (hs:starEach [a] X.env=[(false,eval a X.env)]:=by rfl)
  (hs2:starEach [.Call (.Name "reversed" p2) [a] [] pos2] X.env=[(false,eval (.Call (.Name "reversed" p2) [a] [] pos2) X.env)]:=by rfl) :
  PE X (.Call (.Name "list" p) [.Call (.Name "reversed" p2) [a] [] pos2] [] pos) (kL X.K ta):=by
 intro pins s σ H Q I h;refine Call_ (dZ I hg hm boot_list (PyProof.Rows.callWith_type1 ?_ hs2 rfl));rw [hs2];show wpAny _ _ (spliced ((false,eval (.Call (.Name "reversed" p2) [a] [] pos2) X.env)::[])) _ _ s;refine Calls.spliced_cons (Call_ (dZ I hg2 hm2 boot_reversed (PyProof.Rows.callWith_type1 (thn (ha pos2 pins s σ H _ I h) fun us s1 hhx=>?_) hs rfl)));obtain ⟨vs,H1,I1,r1,q1⟩:=hhx;obtain ⟨l,xs,e,hq,q⟩:=q1;subst e
 cases r1 with
 |cons r rr=>
  cases rr
  cases r
  obtain ⟨its,rv,pl,hz⟩:=I1.list hq;have hlen:=rv.length;refine dX pl.isList fun h' hit hsz hk=>Calls.spliced_nil ?_;obtain ⟨o,ho,ro⟩:=pl.isList;have hlt:=zq7 ho;refine kT (I.ok.hd hc) hit (zn o (hk _ _ ho) ro) (lu hlt) (by simp;omega) fun h2 tk acc c' hk2 hS hacc=>?_;have eacc:=vo hacc;subst eacc;have kp:∀b u,s1.heap.get? b=some u->h2.get? b=some u:=fun b u e=>hk2 b u (cx (zq7 e)) (hk b u e);refine zAA (.ref h'.objs.size) _ (I1.laid (t':=tk) kp (show s1.heap.objs.size<=h'.objs.size by omega) (show ObjOk X.prog X.w _ h2 _ (.lst xs.reverse) from ⟨by rw [jG];exact hz,zAD its.reverse c' (Paired.rev rv) hS⟩)) rfl (q _ (I1.hok.fresh Jy))
theorem vW{K:W.Frag}{ta:TA}{σ:St}{H:Hp}{Q:VK}:kL K ta σ H Q=ta σ H fun vs H1=>∃a xs,vs=[.ref a]/\SqL K H1 a xs/\∀l,H1 l=none->Q (.ref l) (upd H1 l (.lst xs.reverse)):=rfl
section
variable {X:Cx}
end
end L2
namespace L2
theorem rR:∀n:Nat,(List.range n).map (fun k:Nat=>(((n:Int)-1)+(-1) * (k:Int)).toNat)=(List.range n).reverse:=by
 intro n;apply A7;intro j
 by_cases h:j<n
 ·rw [cn,wK h,uO (by simpa using h),fc,wK Jy];simp only [Option.map_some];congr 1;omega
 ·rw [AB (by simp;omega),AB (by simp;omega)]
theorem yv(its:List Value):(List.range its.length).filterMap (its.toArray[·]?)=its:=by have h:=pick_run its.toArray 0 its.length;simpa using h
theorem yx(its:List Value):slicePick its.toArray none none (some (-1))=its.reverse.toArray:=by
 unfold slicePick;have e:sliceBounds none none (some (-1)) its.toArray.size=((its.length:Int)-1,-1,-1):=by simp [sliceBounds]
 rw [e];have c:sliceRange ((its.length:Int)-1) (-1) (-1)=(List.range its.length).reverse:=by
  unfold sliceRange;rw [if_neg Jx];dsimp only
  by_cases hn:its.length=0
  ·rw [hn];rfl
  ·rw [if_pos Jy,show (((its.length:Int)-1 - -1 - -1-1) / - -1).toNat=its.length by rw [show (- -1:Int)=1 from rfl,Int.ediv_one];omega];exact rR its.length
 rw [c,List.filterMap_reverse,yv]
def zC(K:W.Frag)(te tst:TE):TE:=fun σ H Q=>te σ H fun x H1=>tst σ H1 fun y H2=>∃a xs,x=.ref a/\y=.int (-1)/\SqL K H2 a xs/\∀l,H2 l=none->Q (.ref l) (upd H2 l (.lst xs.reverse))
theorem BZ{K:W.Frag}{te tst:TE}{σ:St}{H:Hp}{Q:VK}:zC K te tst σ H Q=te σ H fun x H1=>tst σ H1 fun y H2=>∃a xs,x=.ref a/\y=.int (-1)/\SqL K H2 a xs/\∀l,H2 l=none->Q (.ref l) (upd H2 l (.lst xs.reverse)):=rfl
end L2
namespace L2
variable {X:Cx} {a b c e i iter o:Expr} {apos p pos':Pos} {es:List Expr} {f:Addr} {ps:List Str} {qual x:Str} {sp:Sp} {tA:TT} {ta te to:TE} {wi:TI}
structure XE(X:Cx)(e:Expr)(t:TE):Prop where
 h:PE X e t
structure XT(X:Cx)(e:Expr)(t:TT):Prop where
 h:PT X e t
structure XW(X:Cx)(e:Expr)(t:TT):Prop where
 h:PW X e t
structure XA(X:Cx)(es:List Expr)(t:TA):Prop where
 h:PA X es t
structure XS(X:Cx)(st:Stmt)(t:TS):Prop where
 h:PS X st t
structure XSs(X:Cx)(st:List Stmt)(t:TS):Prop where
 h:PSs X st t
structure XG(X:Cx)(target:Expr)(t:TG):Prop where
 h:PG X target t
structure XGs(X:Cx)(ts:List Expr)(t:TGs):Prop where
 h:PGs X ts t
structure XI(X:Cx)(tg iter:Expr)(wi:TI):Prop where
 h:PI X tg iter wi
structure XO(X:Cx)(e:Option Expr)(t:TO):Prop where
 h:PO X e t
structure XC(X:Cx)(op:CmpOp)(a b:Expr)(t:TE):Prop where
 h:PC X op a b t
structure wW(X:Cx)(ifs:List Expr)(t:TT):Prop where
 h:uU X ifs t
theorem aj{i j pos}:XE X (.Constant (.int i) j pos) (tC (.int i)):=⟨yp⟩
theorem cD{b j pos}:XE X (.Constant (.bool b) j pos) (tC (.bl b)):=⟨CB⟩
theorem d5{j pos}:XE X (.Constant .none j pos) (tC .non):=⟨yt⟩
theorem aF{x j pos}:XE X (.Constant (.str x) j pos) (tC (.str x)):=⟨yu⟩
theorem av{tb:TE}{pos:Pos}{op:Operator}{r:R2}(ho:OpR X (binaryOp op) r)(ha:XE X a ta)(hb:XE X b tb):XE X (.BinOp a op b pos) (tOp r ta tb):=⟨by intro pins s σ H Q I h;exact wpAny_BinOp (E6 ha.h hb.h I h fun v u s2 x y H2 I2 rx ry q=>ho pins s2 σ H2 x y v u Q I2 rx ry q)⟩
theorem g7{pos:Pos}{op:UnaryOp}{r:V->Hp->VK->Prop}(ho:UnR X (unaryOp op) r)(ha:XE X a ta):XE X (.UnaryOp op a pos) (tUn r ta):=⟨by intro pins s σ H Q I h;exact UnaryOp_ (thn (ha.h pins s σ H _ I h) fun v s1 ⟨x,H1,I1,r1,q1⟩=>ho pins s1 σ H1 x v Q I1 r1 q1)⟩
theorem bP{tb:TE}{pos:Pos}{op:CmpOp}{r:R2}(ho:OpR X (compareOp op) r)(ha:XE X a ta)(hb:XE X b tb)(hm:behindInMarks op b=false):XE X (.Compare a [op] [b] pos) (tOp r ta tb):=⟨by intro pins s σ H Q I h;exact wpAny_Compare1 (E6 ha.h hb.h I h fun v u s2 x y H2 I2 rx ry q=>ho pins s2 σ H2 x y v u Q I2 rx ry q) hm⟩
theorem gI{b:Expr}{tb:TE}{pos:Pos}{ee:List Expr}(ha:XE X a ta)(hb:XE X (.BoolOp .And (b::ee) pos) tb):XE X (.BoolOp .And (a::b::ee) pos) (DK ta tb):=⟨by
 intro pins s σ H Q I h;refine BoolOp_and (thn (ha.h pins s σ H _ I h) fun v s1 hhx=>?_);obtain ⟨x,H1,I1,r1,q1⟩:=hhx;obtain ⟨c,rfl,q1⟩:=q1
 cases r1
 refine wpAny_truthy_bool ?_
 cases c with
 |true=>exact hb.h pins s1 σ H1 Q I1 q1
 |false=>exact zAA (.bl false) H1 I1 rfl q1⟩
theorem GG{b:Expr}{tb:TE}{pos:Pos}{ee:List Expr}(ha:XE X a ta)(hb:XE X (.BoolOp .Or (b::ee) pos) tb):XE X (.BoolOp .Or (a::b::ee) pos) (Iu ta tb):=⟨by
 intro pins s σ H Q I h;refine BoolOp_or (thn (ha.h pins s σ H _ I h) fun v s1 hhx=>?_);obtain ⟨x,H1,I1,r1,q1⟩:=hhx;obtain ⟨c,rfl,q1⟩:=q1
 cases r1
 refine wpAny_truthy_bool ?_
 cases c with
 |false=>exact hb.h pins s1 σ H1 Q I1 q1
 |true=>exact zAA (.bl true) H1 I1 rfl q1⟩
theorem iV{pos:Pos}{op}{t:TE}(h:XE X a t):XE X (.BoolOp op [a] pos) t:=⟨fun pins s σ H Q I hw=>BoolOp_one (h.h pins s σ H Q I hw)⟩
theorem cH{tb:TE}{pos:Pos}(hc:XT X c tA)(ha:XE X a ta)(hb:XE X b tb):XE X (.IfExp c a b pos) (tIf tA ta tb):=⟨by
 intro pins s σ H Q I h;refine wpAny_IfExp (thn (hc.h pins s σ H _ I h) fun d s1 hhx=>?_);obtain ⟨H1,I1,q1⟩:=hhx
 cases d with
 |true=>exact ha.h pins s1 σ H1 Q I1 q1
 |false=>exact hb.h pins s1 σ H1 Q I1 q1⟩
theorem aN{t:TA}{pos:Pos}(h:XA X es t):XE X (.List es pos) (Iq t):=⟨by intro pins s σ H Q I hq;refine wpAny_List_spliced (thn (h.h pos pins s σ H _ I hq) fun us s1 ⟨xs,H1,I1,r,z,q⟩=>⟨by rw [<- r.length];exact z,?_⟩);have hf:H1 s1.heap.objs.size=none:=I1.hok.fresh (zq0 _);refine zAA (.ref s1.heap.objs.size) (upd H1 s1.heap.objs.size (.lst xs)) (I1.laid (t':=s1.toks) (fun b u e=>bX _ e) (zq0 _) ?_) rfl (q _ hf);exact ⟨z,zAD us 0 r (dA _ rfl)⟩⟩
theorem aI{t:TA}{pos:Pos}{x1}(h:XA X es t):XE X (.Tuple es x1 pos) (Cb t):=⟨by intro pins s σ H Q I hq;refine wpAny_Tuple_spliced (thn (h.h pos pins s σ H _ I hq) fun us s1 ⟨xs,H1,I1,r,z,q⟩=>⟨by rw [<- r.length];exact z,?_⟩);have hf:H1 s1.heap.objs.size=none:=I1.hok.fresh (zq0 _);refine zAA (.ref s1.heap.objs.size) (upd H1 s1.heap.objs.size (.tup xs)) (I1.laid (t':=s1.toks) (fun b u e=>bX _ e) (zq0 _) ?_) rfl (q _ hf);exact ⟨z,zn us r (zAC _ (dA _ rfl) rfl ⟨_,rfl⟩)⟩⟩
theorem jf{pos:Pos}:XE X (.Dict [] [] pos) zz:=⟨fun pins s σ H Q I h=>wpAny_Dict_empty (zAA (.ref s.heap.objs.size) _ (I.laid (a:=s.heap.objs.size) (o:=.dK []) (t':=s.toks) (fun _ _ q=>bX _ q) (zq0 _) (oR s.heap I.big)) rfl (h _ (I.hok.fresh (zq0 _))))⟩
theorem aK{pos:Pos}{e:Expr}{t:TA}{id:String}{r:List V->Hp->VK->Prop}(hc:eP X (.builtin id) r)(hg:Gl X x)(hm:X.mg x=none)(hv:bootBuiltins x=some (.builtin id))(ha:XA X (e::es) t)(hn:(x==("__name__":Str))=false:=by kernel_rfl) (hdb:(x==("__debug__":Str))=false:=by kernel_rfl) (he:starEach (e::es) X.env=(false,eval e X.env)::starEach es X.env:=by rfl) (hpl:(backTo pos (starEach es X.env)).any (·.1)=false:=by rfl):XE X (.Call (.Name x p) (e::es) [] pos) (tCB r t):=⟨yk hc hg hm hv ha.h (ng hn) hdb he hpl⟩
theorem ck{pos:Pos}{e:Expr}{t:TA}{T:String}{r:List V->Hp->VK->Prop}(hc:eP X (.type T) r)(hg:Gl X x)(hm:X.mg x=none)(hv:bootBuiltins x=some (.type T))(ha:XA X (e::es) t)(hn:(x==("__name__":Str))=false:=by kernel_rfl) (hdb:(x==("__debug__":Str))=false:=by kernel_rfl) (he:starEach (e::es) X.env=(false,eval e X.env)::starEach es X.env:=by rfl) (hpl:(backTo pos (starEach es X.env)).any (·.1)=false:=by rfl):XE X (.Call (.Name x p) (e::es) [] pos) (tCB r t):=⟨vP hc hg hm hv ha.h (ng hn) hdb he hpl⟩
theorem ax{k:Nat}{fd:FuncData}{st:Stmt}{pos:Pos}{e:Expr}{t:TA}(D:bu X.K X.mg x st ps f fd)(G:FnOk X.prog X.w X.K X.mg X.base CX0 k f fd ps sp)(hr:Room k X.A)(ha:XA X (e::es) t)(hg:Gl X x)(hdb:(x==("__debug__":Str))=false:=by kernel_rfl) (he:starEach (e::es) X.env=(false,eval e X.env)::starEach es X.env:=by rfl) (hpl:(backTo pos (starEach es X.env)).any (·.1)=false:=by rfl):XE X (.Call (.Name x p) (e::es) [] pos) (qr sp [] E0 t):=⟨yz D G hr ha.h hg hdb he hpl⟩
theorem cg{e:Expr}{t:TA}{name:Str}{cpos:Pos}{T id:String}{r:V->List V->Hp->VK->Prop}(pa:PlainAttrs T)(slot:Slot T name id)(hty:typeOf (.builtin id)=pure (.type "method_descriptor")) (hm:MtR X id r) (ho:XE X o to) (ha:XA X (e::es) t) (hbase:attributeBase o name X.env (eval o X.env)=eval o X.env:=by rfl) (hfew:((backTo cpos (starEach (e::es) X.env)).all (fun x=>!x.1)&&(backToKw cpos (keywordEach [] X.env)).all (fun x=>x.1.isSome)
 && decide ((e::es).length+([]:List Keyword).length+(if ([]:List Keyword).isEmpty then 0 else 1)<30))=true:=by rfl) (hline:(apos.endLine==cpos.line)=true:=by rfl) (hs:starEach (e::es) X.env=(false,eval e X.env)::starEach es X.env:=by rfl) (hplain:(backTo cpos (starEach es X.env)).any (·.1)=false:=by rfl):XE X (.Call (.Attribute o name apos) (e::es) [] cpos) (tBM X.K T r to t):=⟨Ho pa slot hty hm ho.h ha.h hbase hfew hline hs hplain⟩
theorem jK{name:Str}{cpos:Pos}{T id:String}{r:V->List V->Hp->VK->Prop}(pa:PlainAttrs T)(slot:Slot T name id)(hty:typeOf (.builtin id)=pure (.type "method_descriptor")) (hm:MtR X id r) (ho:XE X o to) (hbase:attributeBase o name X.env (eval o X.env)=eval o X.env:=by rfl) (hline:(apos.endLine==cpos.line)=true:=by rfl):XE X (.Call (.Attribute o name apos) [] [] cpos) (Io X.K T r to):=⟨by intro pins s σ H Q I h;refine wpAny_Call_method0_late hbase hline (thn (ho.h pins s σ H _ I h) fun v s1 hhx=>?_);obtain ⟨x,H1,I1,r1,ty,q1⟩:=hhx;obtain ⟨h1,h2⟩:=sk I1 r1 ty;exact zBI T id pa slot hty h1 h2 (Calls.callWith_builtin rfl (PySem.evalArgs_none (hm pins s1 σ H1 x [] v [] Q I1 r1 .nil q1)))⟩
theorem df{lo hi:Option Expr}{tl th:TO}{pos p2:Pos}{r:V->Option Int->Option Int->Hp->VK->Prop}(hr:SlR X r)(he:XE X e te)(hl:XO X lo tl)(hu:XO X hi th):XE X (.Subscript e (.Slice lo hi none p2) pos) (tSl r te tl th):=⟨by intro pins s σ H Q I h;refine Subscript_ (thn (he.h pins s σ H _ I h) fun v s1 hhx=>?_);obtain ⟨x,H1,I1,r1,q1⟩:=hhx;refine wpAny_Slice (thn (hl.h pins s1 σ H1 _ I1 q1) fun vl s2 ⟨l,H2,I2,pl,q2⟩=>thn (hu.h pins s2 σ H2 _ I2 q2) fun vu s3 hhx=>?_);obtain ⟨u,H3,I3,pu,q3⟩:=hhx;rw [evalPart_none];refine wpAny_pure ?_;have I4:Inv X pins σ H3 {s3 with heap:=s3.heap.push {cls:=.type "slice",data:=.fields #[vl,vu,.none]}}:=I3.kept (t':=s3.toks) fun b ob q=>bX _ q;obtain ⟨T,id,hT,ht,hg⟩:=hr pins {s3 with heap:=s3.heap.push {cls:=.type "slice",data:=.fields #[vl,vu,.none]}} σ H3 x v vl vu l u s3.heap.objs.size Q I4 r1 (Heap.IsSliceOf.new ..) pl pu q3;show wpAny (model X.prog X.w) X.A (subscriptTail e (.Slice lo hi none p2) v (.ref s3.heap.objs.size)) (EP X pins σ Q) X.xe {s3 with heap:=s3.heap.push {cls:=.type "slice",data:=.fields #[vl,vu,.none]}};exact tail_any (ops:=[.ref s3.heap.objs.size,v]) ht hT hg (by with_unfolding_all rfl)⟩
theorem cE{pos:Pos}{td ty:TE}(hu:X.A.units+1<cLine)(ho:XE X o td)(hi:XE X i ty)(hs:GL i):XE X (.Subscript o i pos) (DL td ty):=⟨by intro pins s σ H Q I h;refine C8 PySem.F.slot_dict_getitem.lookup hs (thn (ho.h pins s σ H _ I h) fun u s1 ⟨x,H1,I1,rx,q1⟩=>thn (hi.h pins s1 σ H1 _ I1 q1) fun iv s2 hhx=>?_);obtain ⟨y,H2,I2,ry,a,v,ex,g,q2⟩:=hhx;subst ex;obtain rfl:u=Value.ref a:=rx;exact ⟨oQ I2 g,v8 hu I2 g ry fun w' s3 I3 rw'=>zAA v H2 I3 rw' q2⟩⟩
theorem aq{tb:TE}{pos:Pos}{r:R2}(hr:IxR X r)(ha:XE X a ta)(hb:XE X b tb)(hs:AJ b:=by intro _ _;rfl):XE X (.Subscript a b pos) (tOp r ta tb):=⟨by intro pins s σ H Q I h;exact Subscript_ (E6 ha.h hb.h I h fun v u s2 x y H2 I2 rx ry q=>hr a b pins s2 σ H2 x y v u Q I2 rx ry q (hs _ _))⟩
theorem aM{f:Str}{pos:Pos}(he:XE X e ta)(hb:attributeBase e f X.env (eval e X.env)=eval e X.env):XE X (.Attribute e f pos) (Ip X.K ta f):=⟨by intro pins s σ H Q I h;refine AM hb (thn (he.h pins s σ H _ I h) fun u s1 hhx=>?_);obtain ⟨x,H1,I1,rx,a,C,dx,fs,v,ex,ea,c,n,l,q⟩:=hhx;subst ex;obtain rfl:u=Value.ref a:=rx;exact rc I1 ea c n l fun u' s2 I2 ru=>zAA v H1 I2 ru q⟩
theorem bS{elt tgt:Expr}{ifs:List Expr}{pos:Pos}{scope:Scope}{g:Bk->TG}{tt:Bk->TT}{te:Bk->TE}{tns cns:List Str}{ci:List Nat}(hc:X.calm=true)(S:CompSc X scope cns ci)(hi:XI X tgt iter wi)(hg:∀bk:Bk,XG (X.blk (".0"::(tns++cns)) scope bk) tgt (g bk)) (ht:∀bk:Bk,wW (X.blk (".0"::(tns++cns)) scope bk) ifs (tt bk)) (he:∀bk:Bk,XE (X.blk (".0"::(tns++cns)) scope bk) elt (te bk)) (hs:∀v,foldedSetIterable iter X.env v=pure v:=by intro _;rfl):XE X (.ListComp elt [⟨tgt,iter,ifs,0⟩] scope pos) (kJ wi g tt te tns.length ci):=⟨yn hc S hi.h (fun bk=>(hg bk).h) (fun bk=>(ht bk).h) (fun bk=>(he bk).h) hs⟩
theorem f7{v:V}{u:Value}{pos:Pos}(hg:Gl X x)(hm:X.mg x=none)(hv:bootBuiltins x=some u)(r:RelV v u)(hn:(x==("__name__":Str))=false:=by kernel_rfl) (hd:(x==("__debug__":Str))=false:=by kernel_rfl):XE X (.Name x pos) (tC v):=⟨Bz hg hm hv r (ng hn) hd⟩
theorem zV{v:V}{u:Value}{pos:Pos}(hg:Gl X x)(hm:X.mg x=some u)(r:RelV v u)(hd:(x==("__debug__":Str))=false:=by kernel_rfl):XE X (.Name x pos) (tC v):=⟨BB hg hm r hd⟩
theorem ap{tb:TE}{pos:Pos}{op:CmpOp}{r:R2}(ho:OpR X (compareOp op) r)(ha:XE X a ta)(hb:XE X b tb)(hm:behindInMarks op b=false):XT X (.Compare a [op] [b] pos) (DQ (tOp r ta tb)):=⟨by
 intro pins s σ H Q I h;refine wpAny_isTrue_Compare1 (thn (ha.h pins s σ H _ I h) fun v s1 ⟨x,H1,I1,r1,q1⟩=>thn (hb.h pins s1 σ H1 _ I1 q1) fun u s2 ⟨y,H2,I2,r2,q2⟩=>thn (ho pins s2 σ H2 x y v u _ I2 r1 r2 q2) fun c s3 ⟨z,H3,I3,r3,k,e,q3⟩=>?_) hm
 subst e
 cases r3
 exact wpAny_truthy_bool (zn H3 I3 q3)⟩
theorem cj{t:TE}(h:XE X e t)(he:∀whole,isTrue e X.env whole=(do let v <- whole;standAt e.pos;holding [v] (truthy v)):=by intro _;rfl):XT X e (tB t):=⟨by
 intro pins s σ H Q I hw;refine isTrue_plain (thn (h.h pins s σ H _ I hw) fun v s1 hhx=>?_) (he _);obtain ⟨x,H1,I1,r1,q1⟩:=hhx;obtain ⟨d,rfl,q⟩:=q1
 cases r1
 exact wpAny_truthy_bool (zn H1 I1 q)⟩
theorem dQ{pos:Pos}(ha:XT X a tA):XT X (.UnaryOp .Not a pos) (Ir tA):=⟨by intro pins s σ H Q I h;exact isTrue_not (ha.h pins s σ H (fun c H1=>Q (!c) H1) I h)⟩
theorem Ck{pos:Pos}{op:CmpOp}{t:TE}(h:XC X op a b t)(h1:behindInMarks op b=false:=by first | exact xR _ Jx Jx | rfl):XT X (.Compare a [op] [b] pos) (tB t):=⟨by
 intro pins s σ H Q I hw;refine wpAny_isTrue_Compare1 (thn (h.h pins s σ H _ I hw) fun v s1 h1=>thn h1 fun u s2 h2=>thn h2 fun c s3 hhx=>?_) h1;obtain ⟨x,H1,I1,r1,q1⟩:=hhx;obtain ⟨d,rfl,q⟩:=q1
 cases r1
 exact wpAny_truthy_bool (zn H1 I1 q)⟩
theorem cw{t:TT}(h:XW X e t):XT X e t:=⟨PW.pt h.h⟩
theorem cI{b:Expr}{pos:Pos}{tB':TT}{ee:List Expr}(ha:XT X a tA)(hb:XW X (.BoolOp .And (b::ee) pos) tB'):XW X (.BoolOp .And (a::b::ee) pos) (Im tA tB'):=⟨by
 intro wh pins s σ H Q I h;refine isTrue_and (thn (ha.h pins s σ H _ I h) fun c s1 hhx=>?_);obtain ⟨H1,I1,q1⟩:=hhx
 cases c with
 |true=>exact hb.h wh pins s1 σ H1 Q I1 q1
 |false=>exact zn H1 I1 q1⟩
theorem cr{pos:Pos}(ha:XT X a tA):XW X (.BoolOp .And [a] pos) tA:=⟨by
 intro wh pins s σ H Q I h;refine isTrue_and (thn (ha.h pins s σ H Q I h) fun c s1 e=>?_)
 cases c with
 |true=>exact isTrue_and_nil e
 |false=>exact e⟩
theorem ii{b:Expr}{pos:Pos}{tB':TT}{ee:List Expr}(ha:XT X a tA)(hb:XW X (.BoolOp .Or (b::ee) pos) tB'):XW X (.BoolOp .Or (a::b::ee) pos) (tOr tA tB'):=⟨by
 intro wh pins s σ H Q I h;refine isTrue_or (thn (ha.h pins s σ H _ I h) fun c s1 hhx=>?_);obtain ⟨H1,I1,q1⟩:=hhx
 cases c with
 |true=>exact zn H1 I1 q1
 |false=>exact hb.h wh pins s1 σ H1 Q I1 q1⟩
theorem gJ{pos:Pos}(ha:XT X a tA):XW X (.BoolOp .Or [a] pos) tA:=⟨by
 intro wh pins s σ H Q I h;refine isTrue_or (thn (ha.h pins s σ H Q I h) fun c s1 e=>?_)
 cases c with
 |false=>exact isTrue_or_nil e
 |true=>exact e⟩
theorem ae:XA X [] lj:=⟨yj⟩
theorem aa{e:Expr}{t:TA}(ha:XE X e te)(hr:XA X es t)(hs:starEach (e::es) X.env=(false,eval e X.env)::starEach es X.env:=by rfl):XA X (e::es) (kK te t):=⟨tM ha.h hr.h hs⟩
theorem g8:XO X none uC:=⟨by intro pins s σ H Q I h;rw [evalPart_none];exact wpAny_pure (zAA none H I .none h)⟩
theorem d7(h:XE X e te):XO X (some e) (DP te):=⟨by intro pins s σ H Q I hw;rw [evalPart_some];refine thn (h.h pins s σ H _ I hw) fun u s1 hhx=>?_;obtain ⟨x,H1,I1,r1,q1⟩:=hhx;obtain ⟨i,rfl,q⟩:=q1;obtain ⟨t,rfl⟩:=r1;exact zAA (some i) H1 I1 (.int i t) q⟩
theorem aC{pos:Pos}{i:Nat}(hN:X.N.Nodup)(hi:X.N[i]?=some x)(hx:Loc X.env.scope x)(hf:X.fn x=true\/X.env.scope.names.lookup x=some .local:=by first | exact .inl rfl | exact .inr rfl | assumption):XG X (.Name x pos) (bD i):=⟨tO hN hi hx hf⟩
theorem dP{pos:Pos}{k:Nat}{t:TGs}{n:Nat}(hc:X.calm=true)(h:XGs X es t)(hn:(assignEach es X.env).length=n:=by rfl)(hst:(assignEach es X.env).findIdx? (·.1)=none:=by rfl):XG X (.Tuple es k pos) (GX X.K n t):=⟨by
 intro pins s σ H v u Q I r hw;obtain ⟨a,xs,e1,hq,hl,hw⟩:=hw;subst e1
 cases r
 obtain ⟨its,rv,ht,hz⟩:=I.tuple hq;refine assign_Tuple_tuple (I.ok.hd hc) ht (by simp [hn,<- hl,rv.length]) hst fun h' hx=>?_;have I1:Inv X pins σ H {s with heap:=h'}:=I.kept (t':=s.toks) fun b o e=>hx b o (cx (zq7 e)) e;exact h.h pins _ σ H xs _ Q I1 (by simpa using rv) hw⟩
theorem d6:XGs X [] GW:=⟨by
 intro pins s σ H vs us Q I r h;obtain ⟨e,h⟩:=h;subst e
 cases r
 exact assignInOrder_nil (zAD σ H I h)⟩
theorem aU{e:Expr}{t:TG}{u:TGs}(h1:XG X e t)(h2:XGs X es u)(hs:(assignEach (e::es) X.env).map (·.2)=assign e X.env::(assignEach es X.env).map (·.2):=by rfl):XGs X (e::es) (Cv t u):=⟨by
 intro pins s σ H vs us Q I r h;obtain ⟨v,vr,e1,h⟩:=h;subst e1
 cases r with
 |cons r rr=>rw [hs];refine assignInOrder_cons (thn (h1.h pins s σ H _ _ _ I r h) fun _ s1 hhx=>?_);obtain ⟨σ1,H1,I1,q1⟩:=hhx;exact h2.h pins s1 σ1 H1 _ _ Q I1 rr q1⟩
theorem nM{pos:Pos}{ti:TE}{t:wV}(ho:XE X o to)(hi:XE X i ti)(hs:E3 X t)(ha:∀v,assign (.Subscript o i pos) X.env v=(do
 let ov <- holding [v] (eval o X.env)
 let iv <- holding [v,ov] (eval i X.env)
 standAt pos
 holding [v,ov,iv] (setItem ov iv v)
 release [v,ov,iv] []):=by intro _;rfl):XG X (.Subscript o i pos) (Eg to ti t):=⟨EQ ho.h hi.h hs ha⟩
theorem cQ{tg:Expr}{ta:TA}{pos:Pos}(hg:Gl X "range") (hm:X.mg "range"=none) (ha:XA X [a] ta) (hs:starEach [a] X.env=[(false,eval a X.env)]:=by rfl):XI X tg (.Call (.Name "range" p) [a] [] pos) (Cy ta):=⟨by
 intro pins s σ H R I h;refine Call_ (dZ I hg hm boot_range (PyProof.Rows.callWith_type1 (thn (ha.h pos pins s σ H _ I h) fun us s1 hhx=>?_) hs rfl));obtain ⟨vs,H1,I1,r1,q1⟩:=hhx;obtain ⟨j,e,q1,q2,q⟩:=q1;subst e
 cases r1 with
 |cons r rr=>
  cases rr
  obtain ⟨t,rfl⟩:=r;exact call_range_1 (zc I1 Jy Jy q1 q2 (by simpa using q))⟩
theorem kO{ta:TA}{pos pos0:Pos}{elts:List Expr}{k0:Nat}(hm:X.mg "enumerate"=none) (ha:XA X [a] ta) (hg:Gl X "enumerate":=by rfl) (hs:starEach [a] X.env=[(false,eval a X.env)]:=by rfl):XI X (.Tuple elts k0 pos0) (.Call (.Name "enumerate" p) [a] [] pos) (xD X.K ta):=⟨BD hm ha.h hg hs⟩
theorem bc{tg:Expr}{l:Expr}{tl:TE}(hl:XE X l tl):XI X tg l (Cw X.K tl):=⟨by
 intro pins s σ H R I h;refine thn (hl.h pins s σ H _ I h) fun v s1 hhx=>?_;obtain ⟨x,H1,I1,r1,q1⟩:=hhx;obtain ⟨a,e,⟨xs,hq⟩,q⟩:=q1;subst e
 cases r1
 obtain ⟨its,rv,p,hz⟩:=I1.list hq;refine wpAny_pyIter_list p.isList ?_;refine zAW s1.heap.objs.size ([s1.heap.objs.size]) _ _ H1 rfl (I1.kept (t':=s1.toks) fun b o e=>bX _ e) (wz a _) (zAC _ (dA _ rfl) rfl rfl) (fun b hb=>?_) q;have e:b=s1.heap.objs.size:=by simpa using hb
 subst e;exact I1.fpOk (zq0 _) (I1.hok.fresh (zq0 _))⟩
theorem uF{tg:Expr}{l:Expr}{tl:TE}(hl:XE X l tl):XI X tg l (GZ X.K tl):=⟨by
 intro pins s σ H R I h;refine thn (hl.h pins s σ H _ I h) fun v s1 hhx=>?_;obtain ⟨x,H1,I1,r1,q1⟩:=hhx;obtain ⟨a,e,⟨xs,hq⟩,q⟩:=q1;subst e
 cases r1
 obtain ⟨its,rv,p,hz⟩:=I1.tuple hq;refine wpAny_pyIter_tuple (show s1.heap.IsTuple a its.toArray from p) ?_;refine zAW s1.heap.objs.size ([s1.heap.objs.size]) _ _ H1 rfl (I1.kept (t':=s1.toks) fun b o e=>bX _ e) (sj a _) (zAC _ (dA _ rfl) rfl rfl) (fun b hb=>?_) q;have e:b=s1.heap.objs.size:=by simpa using hb
 subst e;exact I1.fpOk (zq0 _) (I1.hok.fresh (zq0 _))⟩
theorem au{pos:Pos}{i:Nat}(hN:X.N.Nodup)(hi:X.N[i]?=some x)(hx:Loc X.env.scope x)(he:XE X e te)(hs:swapsWith e (some (.Name x pos')) pos.line X.env=pure false:=by rfl)(hf:X.fn x=true\/X.env.scope.names.lookup x=some .local:=by first | exact .inl rfl | exact .inr rfl | assumption):XS X (.Assign [.Name x pos'] e pos) (Ca te (bD i)):=⟨EV hN hi hx he.h hs hf⟩
theorem eJ{i:Nat}{px:Pos}{elt tgt:Expr}{ifs:List Expr}{pos:Pos}{scope:Scope}{g:Bk->TG}{tt:Bk->TT}{te:Bk->TE}{tns cns:List Str}{ci:List Nat}(hN:X.N.Nodup)(hx:X.N[i]?=some x)(hl:Loc X.env.scope x)(hf:X.fn x=true)(hsw:swapsWith (.ListComp elt [⟨tgt,iter,ifs,0⟩] scope pos) (some (.Name x px)) pos'.line X.env=pure true)(hc:X.calm=true)(S:CompSc X scope cns ci)(hi:XI X tgt iter wi)(hg:∀bk:Bk,XG (X.blk (".0"::(tns++cns)) scope bk) tgt (g bk)) (ht:∀bk:Bk,wW (X.blk (".0"::(tns++cns)) scope bk) ifs (tt bk)) (he:∀bk:Bk,XE (X.blk (".0"::(tns++cns)) scope bk) elt (te bk)) (hs:∀v,foldedSetIterable iter X.env v=pure v:=by intro _;rfl):XS X (.Assign [.Name x px] (.ListComp elt [⟨tgt,iter,ifs,0⟩] scope pos) pos') (kC i wi g tt te tns.length ci):=⟨rM hN hx hl hf hsw hc S hi.h (fun bk=>(hg bk).h) (fun bk=>(ht bk).h) (fun bk=>(he bk).h) hs⟩
theorem fG{pos:Pos}{tg:Expr}{g:TG}(he:XE X e te)(hg:XG X tg g)(hs:swapsWithSole [tg] e pos.line X.env=pure false:=by rfl)(hw:swappedStores [tg] e X.env=pure none:=by rfl)(h1:(assignEach [tg] X.env).map (·.2)=[assign tg X.env]:=by rfl):XS X (.Assign [tg] e pos) (Ca te g):=⟨by intro pins s σ H D I h;refine wpAny_Assign_stores (thn (he.h pins s σ H _ I h) fun v s1 hhx=>?_) hs hw;obtain ⟨x,H1,I1,r1,q1⟩:=hhx;rw [h1];exact thn (hg.h pins s1 σ H1 x v _ I1 r1 q1) fun _ s2 q=>q⟩
theorem bI{value:Expr}{f:Str}{pos:Pos}{tv:TE}(ha:XE X o ta)(hv:XE X value tv)(hs:swapsWith value (some (.Attribute o f pos')) pos.line X.env=pure false):XS X (.Assign [.Attribute o f pos'] value pos) (Il X.K ta tv f):=⟨by intro pins s σ H D I h;refine plainObj_wpAny_Assign_Attribute (thn (hv.h pins s σ H _ I h) fun u s1 ⟨y,H1,I1,ry,q⟩=>thn (ha.h pins s1 σ H1 _ I1 q) fun ov s2 hhx=>?_) hs;obtain ⟨x,H2,I2,rx,a,C,dx,fs,ex,ea,c,n,l,q2⟩:=hhx;subst ex;obtain rfl:ov=Value.ref a:=rx;exact rW I2 ea c n l ry fun s3 I3=>zAD σ _ I3 q2⟩
theorem dz{value:Expr}{pos:Pos}{td ty tv:TE}(hu:X.A.units+1<cLine)(ho:XE X o td)(hi:XE X i ty)(hv:XE X value tv)(hs:swapsWith value (some (.Subscript o i pos')) pos.line X.env=pure false):XS X (.Assign [.Subscript o i pos'] value pos) (zj td ty tv):=⟨BF hu ho.h hi.h hv.h hs⟩
theorem aw{pos:Pos}(he:XE X e te):XS X (.Return (some e) pos) (zB te):=⟨by intro pins s σ H D I h;exact wpAny_Return_some (thn (he.h pins s σ H _ I h) fun v s1 ⟨x,H1,I1,r1,q1⟩=>zAN x σ H1 I1 r1 q1)⟩
theorem aR{pos:Pos}(he:XE X e te)(hs:swapsWith e none pos.line X.env=pure false:=by rfl):XS X (.Expr e pos) (DN te):=⟨by intro pins s σ H D I h;exact wpAny_Expr_any (thn (he.h pins s σ H _ I h) fun v s1 ⟨x,H1,I1,r1,q1⟩=>zAD σ H1 I1 q1) I.quiet hs⟩
theorem aG{t u:TS}{pos:Pos}{a b:List Stmt}{tc:TT}(hc:XT X c tc)(ha:XSs X a t)(hb:XSs X b u):XS X (.If c a b pos) (Gv tc t u):=⟨by
 intro pins s σ H D I h;refine wpAny_If (thn (hc.h pins s σ H _ I h) fun d s1 hhx=>?_);obtain ⟨H1,I1,q1⟩:=hhx
 cases d with
 |true=>exact ha.h pins s1 σ H1 D I1 q1
 |false=>exact hb.h pins s1 σ H1 D I1 q1⟩
theorem eZ{pos:Pos}{body:List Stmt}{tc:TT}{tb:TS}(hp:PassesOwn (model X.prog X.w) X.A X.env X.xe)(hc:XT X c tc)(hb:XSs X body tb):XS X (.While c body [] pos) (zD tc tb):=⟨by
 intro pins s σ H D I h;obtain ⟨W,⟨m0,w0⟩,turn⟩:=h;refine wpAny_While (codeAny_whileLoop (fun n s'=>∃σ' H',Inv X pins σ' H' s'/\W n σ' H') ?_ m0 (zAD σ H I w0));rintro n s1 ⟨σ1,H1,I1,w1⟩;refine wpAny_passesOwn hp (thn (hc.h pins s1 σ1 H1 _ I1 (turn n σ1 H1 w1)) fun b s2 hhx=>?_);obtain ⟨H2,I2,q2⟩:=hhx
 cases b with
 |true=>
  obtain ⟨N,hN,q2⟩:=q2;rw [if_pos rfl];refine wpAny_passesOwn hp (thn (hb.h pins s2 σ1 H2 _ I2 q2) fun f s3 q3=>?_)
  cases f with
  |next=>
   obtain ⟨σ3,H3,I3,n3⟩:=q3;obtain ⟨m',hm,w3⟩:=hN σ3 H3 n3;exact zn m' hm (zAD σ3 H3 I3 w3)
  |cont=>
   obtain ⟨σ3,H3,I3,n3⟩:=q3;obtain ⟨m',hm,w3⟩:=hN σ3 H3 n3;exact zn m' hm (zAD σ3 H3 I3 w3)
  |brk=>exact q3
  |ret v=>exact q3
 |false=>rw [if_neg zq3];exact wpAny_execs_nil (zAD σ1 H2 I2 q2)⟩
theorem bG{tg:Expr}{body:List Stmt}{g:TG}{tb:TS}{pos:Pos}(hp:PassesOwn (model X.prog X.w) X.A X.env X.xe)(hc:X.calm=true)(hi:XI X tg iter wi)(hg:XG X tg g)(hb:XSs X body tb)(hs:∀x,foldedSetIterable iter X.env x=pure x:=by intro _;rfl):XS X (.For tg iter body [] pos) (Gu wi g tb):=⟨EU hp hc hi.h hg.h hb.h hs⟩
theorem aD:XSs X [] DO:=⟨fun _ _ σ H _ I h=>wpAny_execs_nil (zAD σ H I h)⟩
theorem ak{st:Stmt}{t:TS}(h1:XS X st t):XSs X [st] t:=⟨by
 intro pins s σ H D I h;refine wpAny_execs_cons (thn (h1.h pins s σ H D I h) fun f s1 q=>?_)
 cases f with
 |next=>exact wpAny_execs_nil q
 |ret v=>exact q
 |brk=>exact q
 |cont=>exact q⟩
theorem ai{st:Stmt}{ee:List Stmt}{t u:TS}(h1:XS X st t)(h2:XSs X ee u):XSs X (st::ee) (Gx t u):=⟨by
 intro pins s σ H D I h;refine wpAny_execs_cons (thn (h1.h pins s σ H {D with nx:=u D} I h) fun f s1 q=>?_)
 cases f with
 |next=>
  obtain ⟨σ',H',I',q⟩:=q;exact h2.h pins s1 σ' H' D I' q
 |ret v=>exact q
 |brk=>exact q
 |cont=>exact q⟩
theorem c7{st:Stmt}{ss:List Stmt}{ta tb:TS}(h1:XS X st ta)(h2:XSs X ss tb):XSs X (st::ss) (Gw ta tb):=⟨by
 intro pins s σ H D I h;obtain ⟨Mid,a,b⟩:=h;refine wpAny_execs_cons (thn (h1.h pins s σ H {D with nx:=Mid} I a) fun f s1 q=>?_)
 cases f with
 |next=>
  obtain ⟨σ',H',I',q⟩:=q;exact h2.h pins s1 σ' H' D I' (b σ' H' q)
 |ret v=>exact q
 |brk=>exact q
 |cont=>exact q⟩
theorem cz:wW X [] gO:=⟨fun pins s σ H Q I h=>wpAny_tests_nil (zn H I h)⟩
theorem nL{t:TT}(h:XT X c t):wW X [c] t:=⟨fun pins s σ H Q I q=>wpAny_tests_one (h.h pins s σ H Q I q)⟩
theorem sr{td ty:TE}(hu:X.A.units+1<cLine)(hi:XE X i ty)(ho:XE X o td):XC X .NotIn i o (uA ty td):=⟨by intro pins s σ H Q I h;refine thn (hi.h pins s σ H _ I h) fun iv s1 ⟨y,H1,I1,ry,q1⟩=>thn (ho.h pins s1 σ H1 _ I1 q1) fun u s2 hhx=>?_;obtain ⟨x,H2,I2,rx,a,ov,ex,g,q2⟩:=hhx;subst ex;obtain rfl:u=Value.ref a:=rx;exact B3 hu I2 g ry fun s3 I3=>zAA (.bl (!ov.isSome)) H2 I3 rfl q2⟩
theorem Iy{CX:CXT}{k:Nat}{C:Addr}{fd:FuncData}{dvs:List V}{ds:List Value}{E:XK}{m:Str}{pos:Pos}{e:Expr}{t:TA}{pl:Sem Bool}(he:XE X o ta)(c:Cls X.K C)(hm:uT X.K C m f)(F:FnOk X.prog X.w X.K X.mg X.base CX k f fd ps sp)(hr:Room k X.A)(hb:Binds X.K fd ps ds)(hd:Vals dvs ds)(hx:ff CX X E)(ha:XA X (e::es) t)(hst:starEach (e::es) X.env=(false,eval e X.env)::starEach es X.env:=by rfl)(hpl:(backTo pos (starEach es X.env)).any (·.1)=false:=by rfl)(ht:eval (.Call (.Attribute o m apos) (e::es) [] pos) X.env=(do
 let ov <- eval o X.env
 standAt apos.atName
 let (f,first) <- holding [ov] (getMethod ov m pl)
 callWith pos f first (backTo pos (starEach (e::es) X.env)) (backToKw pos (keywordEach [] X.env))):=by rfl):XE X (.Call (.Attribute o m apos) (e::es) [] pos) (iR C m sp dvs E ta t):=⟨tN he.h c hm F hr hb hd hx ha.h hst hpl ht⟩
theorem zU{pos:Pos}{keys:List (Option Expr)}{values:List Expr}{trs:List (TE×TE)}(h:PPs X pos keys values trs)(hall:keys.all (·.isSome)=true)(hl:keys.length=values.length)(h0:keys≠[])(h15:keys.length<=15):XE X (.Dict keys values pos) (DM trs):=⟨by
 intro pins s σ H Q I q;have hn:=I.hok.fresh (zq0 s.heap.objs.size);have I1:=I.laid (a:=s.heap.objs.size) (o:=.dK []) (h':=s.heap.push {cls:=.type "dict",data:=.dict #[]}) (t':=s.toks) (fun _ _ q=>bX _ q) (zq0 _) (oR s.heap I.big);refine wpAny_Dict_walk (knd:=bC X.prog X.w) hall hl h0 h15 (thn (h pins _ σ _ _ I1 (q _ hn)) fun ws s2 hhx=>?_);obtain ⟨ps,H2,I2,rel,e,kvs,ep,lk,q2⟩:=hhx;subst ep;obtain ⟨rs,c,rk⟩:=jS (P:=X.prog) (w:=X.w) rel;obtain ⟨z,hd,vs0,r0,dd⟩:=Cu I2.hok e
 cases r0
 refine zAC rs c dd fun h' dd' hs=>zAA (.ref s.heap.objs.size) _ ?_ rfl q2;have hz:(ib [] kvs).length<=sizeLine:=by have h1:=gZ kvs [];rw [uK] at h1;rw [sizeLine_eq];omega
 have he:∃q,h'.get? s.heap.objs.size=some q:=let ⟨q,_,_,hq,_⟩:=dd';⟨q,hq⟩;exact iz I2 (by rw [e];exact True.intro) hs he (qV hz hd (rk.merge .nil) dd')⟩
theorem gK{k:Nat}{C:Addr}{fd:FuncData}{st:Stmt}{pos:Pos}{e:Expr}{t:TA}(c:KlsAt X.K X.mg x C)(D:bj X.K C "__init__" qual st ps f fd) (G:FnOk X.prog X.w X.K X.mg X.base CX0 k f fd ps sp) (hr:Room (k+1) X.A) (ha:XA X (e::es) t) (hg:Gl X x) (hdb:(x==("__debug__":Str))=false:=by kernel_rfl) (he:starEach (e::es) X.env=(false,eval e X.env)::starEach es X.env:=by rfl) (hpl:(backTo pos (starEach es X.env)).any (·.1)=false:=by rfl):XE X (.Call (.Name x p) (e::es) [] pos) (kM C sp [] E0 t):=⟨yB c D G hr ha.h hg hdb he hpl⟩
theorem sA{k:Nat}{C:Addr}{fd:FuncData}{st:Stmt}{pos:Pos}(c:KlsAt X.K X.mg x C)(D:bj X.K C "__init__" qual st ps f fd) (G:FnOk X.prog X.w X.K X.mg X.base CX0 k f fd ps sp) (hr:Room (k+1) X.A) (hg:Gl X x) (hdb:(x==("__debug__":Str))=false:=by kernel_rfl):XE X (.Call (.Name x p) [] [] pos) (kM C sp [] E0 lj):=⟨yq (c.make D) G hr hg c.M D.B .nil pK hdb⟩
theorem aT{k:Nat}{C:Addr}{fd:FuncData}{m:Str}{st:Stmt}{pos:Pos}{e:Expr}{t:TA}{pl:Sem Bool}(c:Cls X.K C)(D:bj X.K C m qual st ps f fd)(G:FnOk X.prog X.w X.K X.mg X.base CX0 k f fd ps sp)(hr:Room k X.A)(he:XE X o ta)(ha:XA X (e::es) t)(hst:starEach (e::es) X.env=(false,eval e X.env)::starEach es X.env:=by rfl)(hpl:(backTo pos (starEach es X.env)).any (·.1)=false:=by rfl)(ht:eval (.Call (.Attribute o m apos) (e::es) [] pos) X.env=(do
 let ov <- eval o X.env
 standAt apos.atName
 let (f,first) <- holding [ov] (getMethod ov m pl)
 callWith pos f first (backTo pos (starEach (e::es) X.env)) (backToKw pos (keywordEach [] X.env))):=by rfl):XE X (.Call (.Attribute o m apos) (e::es) [] pos) (iR C m sp [] E0 ta t):=⟨yC c D G hr he.h ha.h hst hpl ht⟩
theorem dg{k:Nat}{C:Addr}{fd:FuncData}{m:Str}{st:Stmt}{pos:Pos}{pl:Sem Bool}(c:Cls X.K C)(D:bj X.K C m qual st ps f fd)(G:FnOk X.prog X.w X.K X.mg X.base CX0 k f fd ps sp)(hr:Room k X.A)(he:XE X o ta)(ht:eval (.Call (.Attribute o m apos) [] [] pos) X.env=(do
 let ov <- eval o X.env
 standAt apos.atName
 let (f,first) <- holding [ov] (getMethod ov m pl)
 callWith pos f first (backTo pos (starEach [] X.env)) (backToKw pos (keywordEach [] X.env))):=by rfl):XE X (.Call (.Attribute o m apos) [] [] pos) (iR C m sp [] E0 ta lj):=⟨vT c D G hr he.h ht⟩
theorem cV{vs:List V}(h:jJ es=some vs):XA X es (tVs vs):=⟨pJ h⟩
end L2
namespace L2
variable {X:Cx}
theorem Ci{tg a:Expr}{ta:TA}{p pos:Pos}(hm:X.mg "reversed"=none) (ha:XA X [a] ta) (hg:Gl X "reversed":=by rfl) (hs:starEach [a] X.env=[(false,eval a X.env)]:=by rfl):XI X tg (.Call (.Name "reversed" p) [a] [] pos) (Ek X.K ta):=⟨ER hm ha.h hg hs⟩
theorem jt{a:Expr}{ta:TA}{p p2 pos pos2:Pos}(hc:X.calm=true)(hm:X.mg "list"=none) (hm2:X.mg "reversed"=none) (ha:XA X [a] ta) (hg:Gl X "list") (hg2:Gl X "reversed") (hs:starEach [a] X.env=[(false,eval a X.env)]:=by rfl) (hs2:starEach [.Call (.Name "reversed" p2) [a] [] pos2] X.env=[(false,eval (.Call (.Name "reversed" p2) [a] [] pos2) X.env)]:=by rfl):XE X (.Call (.Name "list" p) [.Call (.Name "reversed" p2) [a] [] pos2] [] pos) (kL X.K ta):=⟨rJ hc hm hm2 ha.h hg hg2 hs hs2⟩
theorem jg{e st:Expr}{te tst:TE}{p2 pos:Pos}(he:XE X e te)(hst:XE X st tst):XE X (.Subscript e (.Slice none none (some st) p2) pos) (zC X.K te tst):=⟨by
 intro pins s σ H Q I h;refine Subscript_ (thn (he.h pins s σ H _ I h) fun v s1 hhx=>?_);obtain ⟨x,H1,I1,r1,q1⟩:=hhx;refine wpAny_Slice ?_;rw [evalPart_none];refine wpAny_pure (wpAny_pure ?_);rw [evalPart_some];refine thn (hst.h pins s1 σ H1 _ I1 q1) fun vs s3 hhx=>?_;obtain ⟨y,H3,I3,r3,a,xs,ex,ey,hx,q⟩:=hhx;subst ex ey
 cases r1
 obtain ⟨tk,rfl⟩:∃tk,vs=.int (-1) tk:=r3;have I4:Inv X pins σ H3 {s3 with heap:=s3.heap.push {cls:=.type "slice",data:=.fields #[.none,.none,.int (-1) tk]}}:=I3.kept (t':=s3.toks) fun b ob q=>bX _ q;obtain ⟨its,r,ht,hz⟩:=I4.list hx;have hlen:=r.length;show wpAny (model X.prog X.w) X.A (subscriptTail e (.Slice none none (some st) p2) (.ref a) (.ref s3.heap.objs.size)) (EP X pins σ Q) X.xe {s3 with heap:=s3.heap.push {cls:=.type "slice",data:=.fields #[.none,.none,.int (-1) tk]}};refine tail_any (ops:=[.ref a,.ref s3.heap.objs.size]) ht.isList.typeIs slot_list_getitem.lookup ?_ (by with_unfolding_all rfl);refine wpAny_getItem_list_slice ht.isList (Heap.IsSliceOf.new ..) .none .none (.int (-1) tk) Jz ?_ (by rw [List.size_toArray]<;>omega);rw [yx];refine zAA (.ref (s3.heap.push {cls:=.type "slice",data:=.fields #[.none,.none,.int (-1) tk]}).objs.size) _ (I4.laid (t':=s3.toks) (o:=.lst xs.reverse) (fun b ob q=>bX _ q) (zq0 _) ?_) rfl (q _ (I4.hok.fresh (zq0 _)));exact ⟨by rw [jG];exact hz,zAD _ 0 (Paired.rev r) (dA _ rfl)⟩⟩
end L2
namespace L2
section
variable {X:Cx}
def de(x:V)(xs:List V):Nat:=xs.countP fun y=>eqV y x
def yD(K:W.Frag):V->List V->Hp->VK->Prop:=fun x vs H Q=>∃l xs y,x=.ref l/\vs=[y]/\SqL K H l xs/\bF y=true/\xs.all bF=true/\Q (.int (de y xs)) H
theorem lQ{x:V}:∀{xs:List V} {us:List Value},Vals xs us->xs.all bF=true->us.countP (eqU x)=xs.countP fun y=>eqV y x
 |_,_,.nil,_=>rfl
 |x'::xs,_,.cons h t,f=>by rw [sE,dB] at f;rw [List.countP_cons,List.countP_cons,lQ t f.2,qY h f.1]
theorem xP:MtM X "list.count" (yD X.K):=by
 intro pins s σ H x vs v us Q I rx rv h;obtain ⟨l,xs,y,rfl,rfl,hq,fy,fx,q⟩:=h
 cases rx
 obtain ⟨u,rfl,ru⟩:=rv.one;obtain ⟨its,r,pl,_⟩:=I.list hq;obtain ⟨o,n,e,c,hd,hdt⟩:=id pl;obtain ⟨oc,od,odt,osl⟩:=o;simp only at c hd hdt;subst c hd hdt;refine call_meets F.slot_list_count (zn _ e rfl) F.entry_list_count (F.args_list_count_2 _ _) (SeqAt.list_countAt l its.toArray n none osl u (eqU y)) (zAB e (fun z hz=>eX ru fy r fx z (by simpa using hz)) ?_);rw [show its.toArray.toList=its from rfl,lQ r fx];exact zAA (.int _) H (I.tok _) ⟨_,rfl⟩ q
theorem vp{acc:Array Value}{n:Nat}(h:ItemsOf (fun i v=>∃t,v=Value.int (0+(i:Int) * 1) t) acc n):Vals ((List.range n).map fun i:Nat=>V.int i) acc.toList:=by
 obtain ⟨h1,h2⟩:=h;subst h1;rw [<- Array.length_toList];have g:∀(l:List Value)(k:Nat),(∀(i:Nat)v,l[i]?=some v->∃t,v=Value.int ((k+i:Nat):Int) t)->Vals ((List.range' k l.length).map fun i:Nat=>V.int i) l:=by
  intro l
  induction l with
  |nil=>intro k _;exact .nil
  |cons a l ih=>
   intro k hl;refine .cons ?_ (ih (k+1) fun i v hv=>?_)
   ·obtain ⟨t,e⟩:=hl 0 a rfl;exact ⟨t,e⟩
   ·obtain ⟨t,e⟩:=hl (i+1) v hv;exact ⟨t,by rw [e];congr 1;omega⟩
 have z:=g acc.toList 0 fun i v hv=>by obtain ⟨t,e⟩:=h2 i v (by rw [<- hv,DR]);exact ⟨t,by rw [e];congr 1;omega⟩
 rw [List.range_eq_range'];exact z
end
def Ep(pr:Params):Key->Int
 | .inl k=>hashInt k
 | .inr x=>if x.cps.isEmpty=true then 0 else reduceHash (pr.strHash x.cps)
def nV(K:W.Frag)(pr:Params)(a:Addr)(kvs:List (Key×V)):Prop:=∃(es:List DictEntry)(ep:Nat),K.lookup a=some ⟨.type "dict",none,.dict es.toArray ep,#[]⟩/\(a==sysModules)=false/\(kvs.map (·.1)).Nodup/\Paired (fun (kv:Key×V) (e:DictEntry)=>jn kv.1 e.key=true/\e.hash=Ep pr kv.1/\RelV kv.2 e.val) kvs es
theorem jm{P:Program}{w:World}:∀{kvs:List (Key×V)} {es:List DictEntry},Paired (fun (kv:Key×V) (e:DictEntry)=>jn kv.1 e.key=true/\e.hash=Ep w.params kv.1/\RelV kv.2 e.val) kvs es->
  ∃vs:List (Key×Value),KV kvs vs/\Pairs (bC P w) es vs/\∀e∈es,∃k,(bC P w).is k e.key=true/\e.hash=(bC P w).hash k
 |_,_,.nil=>zAC ([]) .nil .nil Jz
 |kv::kvs,e::es,.cons h t=>by
  obtain ⟨vs,r,p,q⟩:=jm (P:=P) t;obtain ⟨h1,h2,h3⟩:=h;refine zAC ((kv.1,e.val)::vs) (.cons ⟨rfl,h3⟩ r) (.cons h1 rfl p) fun e' he=>?_;rcases zq5.mp he with z | z
  ·subst z;refine zn kv.1 h1 (h2.trans ?_);obtain ⟨k,v⟩:=kv
   cases k<;>rfl
  ·exact q e' z
theorem oP{X:Cx}{pins:List (Addr×Obj)}{σ:St}{H:Hp}{s:Shared}{a:Addr}{kvs:List (Key×V)}{pr:Params}(hw:pr=X.w.params)(I:Inv X pins σ H s)(D:nV X.K pr a kvs):(a==sysModules)=false/\∃vs,KV kvs vs/\s.heap.DictOf (bC X.prog X.w) a vs:=by subst hw;obtain ⟨es,ep,hk,hd,nd,pr⟩:=D;obtain ⟨vs,r,p,q⟩:=jm (P:=X.prog) pr;refine ⟨hd,zn vs r (zAH _ es.toArray ep (zAQ (I.kIn a _ hk) (zAB rfl rfl rfl) rfl (fun e he=>q e (by simpa using he)) p ?_))⟩;rw [<- r.keys];exact nd
def rZ(kvs:List (Key×V))(ty:TE):TE:=fun σ H Q=>ty σ H fun y H1=>∃k,y=kV k/\Q ((bE kvs k).getD .non) H1
section
variable {X:Cx} {e:Expr} {x:Str} {p apos cpos:Pos} {ty:TE} {a:Addr} {kvs:List (Key×V)} {pr:Params}
theorem yA(hw:pr=X.w.params)(D:nV X.K pr a kvs)(hm:X.mg x=some (.ref a))(hg:Gl X x)(he:PE X e ty)(m:M1 X (.Name x p) "get" apos e cpos) (hdb:(x==("__debug__":Str))=false:=by kernel_rfl) :
  PE X (.Call (.Attribute (.Name x p) "get" apos) [e] [] cpos) (rZ kvs ty):=by
 intro pins s σ H Q I h;refine wpAny_Call_method m.base m.few m.line PySem.F.plainAttrs_dict PySem.F.slot_dict_get PySem.F.type_dict_get (iB I hg hm ?_ hdb);obtain ⟨hd,vs,rel,dd⟩:=oP hw I D;refine zAB dd.typeIs (fun b q=>?_) ?_
 ·cases q
  obtain ⟨ob,_,_,h1,h2,_⟩:=dd;exact zn ob h1 h2.2.1
 rw [m.trees];refine Calls.callWith_builtin rfl (Calls.evalArgs_plain (Calls.spliced_cons (thn (he pins s σ H _ I h) fun iv s2 ⟨y,H2,I2,ry,k,ek,q2⟩=>Calls.spliced_nil ?_)));subst ek;obtain ⟨hd,vs,rel,dd⟩:=oP hw I2 D;refine call_meetsIn PySem.F.slot_dict_get dd.typeIs PySem.F.entry_dict_get (PySem.F.args_dict_get_2 _ _) (meets_dict_get (bC X.prog X.w) a (lV ry) hd) (zn _ dd.mapOf (zAA _ H2 (I2.tok _) ((rel.val k).getD (show RelV .non .none from rfl)) q2))
theorem wG(hw:pr=X.w.params)(D:nV X.K pr a kvs)(hm:X.mg x=some (.ref a))(hg:Gl X x)(he:XE X e ty)(m:M1 X (.Name x p) "get" apos e cpos) (hdb:(x==("__debug__":Str))=false:=by kernel_rfl) :
  XE X (.Call (.Attribute (.Name x p) "get" apos) [e] [] cpos) (rZ kvs ty):=⟨yA hw D hm hg he.h m hdb⟩
theorem BV{kvs:List (Key×V)}{ty:TE}{σ:St}{H:Hp}{Q:VK}:rZ kvs ty σ H Q=ty σ H fun y H1=>∃k,y=kV k/\Q ((bE kvs k).getD .non) H1:=rfl
end
end L2
namespace L2
section
variable {prog:Program} {w:World} {A:Around} {E:Value->Shared->Prop} {s:Shared}
open AutoSeq1 (wpAny_loadPart') in
end
section
variable {K:W.Frag} {a:Addr} {xs:List V}
end
section
variable {K:W.Frag} {a b:Addr} {H:Hp} {Q:VK}
theorem yZ:tV K [.ref a] H Q=∃ns:List Int,SqL K H a (ns.map V.int)/\ns.length<64/\∀(l:Addr)(ns':List Int),H l=none->ns'.Perm ns->ns'.Pairwise (·<=·)->Q (.ref l) (upd H l (.lst (ns'.map V.int))):=propext ⟨by rintro ⟨_,ns,e,q⟩;cases e;exact ⟨ns,q⟩,by rintro ⟨ns,q⟩;exact zAD a ns rfl q⟩
theorem HA:Hq K [.ref a] H Q=∃bs:List Bool,SqL K H a (bs.map V.bl)/\Q (.bl (bs.any id)) H:=propext ⟨by rintro ⟨_,ns,e,q⟩;cases e;exact ⟨ns,q⟩,by rintro ⟨ns,q⟩;exact zAD a ns rfl q⟩
theorem BL{y:V}:yD K (.ref a) [y] H Q=∃xs,SqL K H a xs/\bF y=true/\xs.all bF=true/\Q (.int (de y xs)) H:=propext ⟨by rintro ⟨_,xs,_,e1,e2,q⟩;cases e1;cases e2;exact ⟨xs,q⟩,by rintro ⟨xs,q⟩;exact zAN a xs y rfl rfl q⟩
end
end L2
namespace L2
def Cx.blkZ(X:Cx)(z0:Str)(N':List Str)(scope:Scope)(b:Bk):Cx:=
 {prog:=X.prog,w:=X.w,K:=X.K,mg:=X.mg,base:=X.base,A:=X.A,N:=N',s₀:=b.s₂,H₀:=b.H₂,env:=compEnvC scope ((z0,b.C+1)::cY X.env.cells scope.names []) b.C X.env,outer:=X.stack,stack:=X.stack,ex:=b.fp,fn:=fun x=>x==z0,calm:=X.calm,pn:=[],xe:=fun _ _=>False}
theorem E7{X:Cx}{z0:Str}{N':List Str}{scope:Scope}{b:Bk}:(X.blkZ z0 N' scope b).K=X.K:=rfl
structure CompScZ(X:Cx)(z0:Str)(scope:Scope)(cns:List Str)(ci:List Nat):Prop where
 kind:scope.kind=.function
 names:∀y∈scope.names,y.2=.local->scope.names.lookup y.1=some .local
 free:∀y∈scope.names,y.2=.free->X.env.kindOf y.1=some .cell\/X.env.kindOf y.1=some .free
 cap:∀(j:Nat)x,cns[j]?=some x->∃i,ci[j]?=some i/\X.N[i]?=some x/\(x,NameKind.free)∈scope.names
 len:cns.length=ci.length
 noloc:∀y,(y,NameKind.free)∈scope.names->¬(relabel scope X.env).names.lookup y=some .local
 nofree:(z0,NameKind.free)∉scope.names
 seen:∀y,(relabel scope X.env).names.lookup y=some .cell\/(relabel scope X.env).names.lookup y=some .free->y=z0\/(y,NameKind.free)∈scope.names
 cells:∀n acc,cellsFrom n scope.names acc=(z0,n)::acc
 push:∀h,pushCells h scope.names=h.push {cls:=.type "cell",data:=.cell none}
section
variable {M:Model} {A:Around} {E:Value->Shared->Prop} {s:Shared}
theorem jy{scope:Scope}{globals:Addr}{closure:List (Str×Addr)}{qual:Str}{outer:Env}{z0:Str}{Q:Env->Shared->Prop}
  (hc:∀n acc,cellsFrom n scope.names acc=(z0,n)::acc) (hp:∀h,pushCells h scope.names=h.push {cls:=.type "cell",data:=.cell none})
  (hQ:Q {scope:=scope,locals:=s.heap.objs.size,globals:=globals,cells:=(z0,s.heap.objs.size+1)::closure,qual:=qual,func:=none,code:=outer.code,frame:=outer.frame,builtins:=outer.builtins}
   {s with heap:=(s.heap.push {cls:=.type "dict",data:=.dict #[]}).push {cls:=.type "cell",data:=.cell none}}) :
  wpAny M A (newFunctionEnv scope globals closure [] qual none .none (some outer)) Q E s:=by
 simp only [newFunctionEnv,Option.isSome_some,if_true];refine wpAny_bind (wpAny_alloc ?_);refine wpAny_bind (wpAny_layCells _ (fun name kind cells=>by cases hkc:kind==NameKind.cell<;>simp [hkc]) _ _ _ _ ?_);rw [hc,hp,show ({s with heap:=s.heap.push {cls:=.type "dict",data:=.dict #[]}}:Shared).heap.objs.size=s.heap.objs.size+1 from lA ..];refine wpAny_bind ?_;rw [List.forIn_nil];exact wpAny_pure (wpAny_pure hQ)
end
theorem qS{X:Cx}{elt iter tgt:Expr}{ifs:List Expr}{pos:Pos}{scope:Scope}{z0:Str}{g:Bk->TG}{tt:Bk->TT}{te:Bk->TE}{tns cns:List Str}{ci:List Nat}{RR:Value->Addr->Result->Shared->Prop}{E:Value->Shared->Prop}
  {pins:List (Addr×Obj)} {σ:St} {H2:Hp} {s2:Shared} {it:Addr} {fp:List Addr} {tn:Nat->Heap->Prop} {J:It} {Q:Addr->Hp->Prop}
  (hc:X.calm=true) (S:CompScZ X z0 scope cns ci)
  (hg:∀bk:Bk,PG (X.blkZ z0 (".0"::(tns++cns)) scope bk) tgt (g bk))
  (ht:∀bk:Bk,uU (X.blkZ z0 (".0"::(tns++cns)) scope bk) ifs (tt bk))
  (he:∀bk:Bk,PE (X.blkZ z0 (".0"::(tns++cns)) scope bk) elt (te bk))
  (I2:Inv X pins σ H2 s2) (T:kR X.prog X.w X.K tgt J fp it tn) (st2:tn 0 s2.heap) (f2:∀b∈fp,ju X pins H2 b)
  (hcw:∀acc,H2 acc=none->∀bk:Bk,ce J (g bk) (tt bk) (te bk) tns.length ci σ acc (Q acc) (upd H2 acc (.lst [])))
  (fin:∀D C s5 H4 m,Inv X pins σ H4 s5->s5.heap.Ns C m->ju X pins H4 C->Q D H4->RR (.ref D) C (.ok .next) s5) :
  wpAny (model X.prog X.w) X.A (newList []) (fun acc s₃=>wpAny (model X.prog X.w) X.A (newFunctionEnv scope X.env.globals (cY X.env.cells scope.names []) [] X.env.qual none .none (some X.env)) (fun cenv s₄=>codeAny (model X.prog X.w) X.A (.compStart (.ListComp elt [⟨tgt,iter,ifs,0⟩] scope pos) 0 (.ref it) acc {cenv with scope:=relabel scope X.env}) (RR acc cenv.locals) s₄) E s₃) E s2:=by
 have hfc:∀y∈scope.names,y.2=.free->∃c,X.env.cells.lookup y.1=some c:=fun y hy hk=>I2.ok.has _ (S.free y hy hk);have hsub:∀y c,(cY X.env.cells scope.names []).lookup y=some c->X.env.cells.lookup y=some c:=ir hfc (fun y c e=>by simp at e);refine wpAny_newObj_type (jy S.cells S.push ?_);dsimp only;generalize hH2:s2.heap.push {cls:=.type "list",dict:=none,data:=.seq ([]:List Value).toArray}=G2;have hCz:G2.objs.size=s2.heap.objs.size+1:=by rw [<- hH2,lA]
 have hns₁:((G2.push {cls:=.type "dict",data:=.dict #[]}).push {cls:=.type "cell",data:=.cell none}).Ns G2.objs.size (fun _=>none):=(Heap.Ns.new G2 (.type "dict")).keeps fun b o e=>bX _ e;have hcl₁:((G2.push {cls:=.type "dict",data:=.dict #[]}).push {cls:=.type "cell",data:=.cell none}).IsCell (G2.objs.size+1) none:=by refine zn ({cls:=.type "cell",data:=.cell none}) ?_ rfl;have:=dA (G2.push {cls:=.type "dict",data:=.dict #[]}) (o:={cls:=.type "cell",data:=.cell none}) rfl;rwa [lA] at this
 have keep₁:∀b o,G2.get? b=some o->((G2.push {cls:=.type "dict",data:=.dict #[]}).push {cls:=.type "cell",data:=.cell none}).get? b=some o:=fun b o e=>bX _ (bX _ e);have hsz₁:((G2.push {cls:=.type "dict",data:=.dict #[]}).push {cls:=.type "cell",data:=.cell none}).objs.size=G2.objs.size+2:=by rw [lA,lA]
 generalize hh₁:(G2.push {cls:=.type "dict",data:=.dict #[]}).push {cls:=.type "cell",data:=.cell none}=h₁ at hns₁ hcl₁ keep₁ hsz₁ ⊢;have hDC:s2.heap.objs.size≠G2.objs.size:=by rw [hCz];exact cx (uH _)
 have below:∀b,b<s2.heap.objs.size->b≠G2.objs.size:=fun b hb=>by omega
 have old:∀b o,s2.heap.get? b=some o->h₁.get? b=some o:=fun b o e=>keep₁ b o (hH2 ▸ bX _ e);have hacc:h₁.get? s2.heap.objs.size=some {cls:=.type "list",dict:=none,data:=.seq ([]:List Value).toArray}:=keep₁ _ _ (hH2 ▸ dA _ rfl);have hnD:H2 s2.heap.objs.size=none:=I2.hok.fresh (zq0 _);have hnC:H2 G2.objs.size=none:=I2.hok.fresh Jy;have hnE:H2 (G2.objs.size+1)=none:=I2.hok.fresh Jy;obtain ⟨W,⟨m0,w0⟩,turn⟩:=hcw s2.heap.objs.size hnD ⟨G2.objs.size,fp,s2,H2⟩;have nlt:∀{b:Addr} {o:Obj},s2.heap.get? b=some o->b≠s2.heap.objs.size:=fun q=>cx (zq7 q);have fpl:∀b∈fp,b<s2.heap.objs.size:=fun b hb=>by obtain ⟨o,e,_⟩:=T.obj _ _ st2 b hb;exact zq7 e
 have clt:∀y c,(cY X.env.cells scope.names []).lookup y=some c->c<s2.heap.objs.size:=fun y c e=>by obtain ⟨v,q⟩:=I2.cell y c (hsub y c e);exact q.lt
 have split:∀y c,((z0,G2.objs.size+1)::cY X.env.cells scope.names []).lookup y=some c->(y=z0/\c=G2.objs.size+1)\/(y≠z0/\(cY X.env.cells scope.names []).lookup y=some c):=fun y c e=>by
  rw [qG] at e
  cases hb:y==z0 with
  |true=>rw [hb] at e;cases e;exact .inl ⟨by simpa using hb,rfl⟩
  |false=>rw [hb] at e;exact .inr ⟨by simpa using hb,e⟩
 have hasC:∀y,((relabel scope X.env).names.lookup y=some .cell\/(relabel scope X.env).names.lookup y=some .free)->∃c,((z0,G2.objs.size+1)::cY X.env.cells scope.names []).lookup y=some c:=fun y hk=>by
  rw [qG]
  cases hb:y==z0 with
  |true=>exact ⟨_,rfl⟩
  |false=>
   rcases S.seen y hk with z | z
   ·subst z;simp at hb
   ·exact dY z
 have ok:(X.blkZ z0 (".0"::(tns++cns)) scope ⟨G2.objs.size,fp,s2,H2⟩).Ok:={
  mod:=I2.ok.mod
  kind:=S.kind
  glob:=I2.ok.glob
  blt:=I2.ok.blt
  above:=by show s2.heap.objs.size<=G2.objs.size;omega
  inj:=fun y z c e1 e2=>by
   rcases split y c e1 with ⟨a1,b1⟩ | ⟨a1,b1⟩<;>rcases split z c e2 with ⟨a2,b2⟩ | ⟨a2,b2⟩
   ·rw [a1,a2]
   ·subst b1;have h9:(G2.objs.size+1:Nat)<s2.heap.objs.size:=clt _ _ b2;omega
   ·subst b2;have h9:(G2.objs.size+1:Nat)<s2.heap.objs.size:=clt _ _ b1;omega
   ·exact I2.ok.inj y z c (hsub y c b1) (hsub z c b2)
  has:=fun y hk=>hasC y hk
  cab:=fun y c e e2=>by
   show s2.heap.objs.size<=c;have e':(y==z0)=true:=e;rcases split y c e2 with ⟨a1,b1⟩ | ⟨a1,b1⟩
   ·subst b1;omega
   ·exact absurd (by simpa using e') a1
  hd:=I2.ok.hd
  frames:=I2.ok.frames
  stk:=.inl rfl
  exf:=fun b hb=>⟨below b (fpl b hb),fun y c e=>by
   rcases split y c e with ⟨a1,b1⟩ | ⟨a1,b1⟩
   ·subst b1;intro h8;subst h8;have h9:(G2.objs.size+1:Nat)<s2.heap.objs.size:=fpl _ hb;omega
   ·exact (f2 b hb).2.2.2.2.1 y c (hsub y c b1)⟩
  bs:=I2.bs
  bsz:=cL I2.ok.bsz I2.sz
  noex:=fun b o e hb=>by
   rcases (f2 b hb).2.2.2.1 with z | z
   ·exact I2.ok.noex b o e z
   ·exact absurd (dR (zq7 e) (cL I2.ok.bsz z)) (nN _)
  exfs:=fun b hb hf=>by
   rcases zq5.mp (I2.stkSub b hf) with z | z
   ·exact (f2 b hb).2.1 z
   ·exact (f2 b hb).2.2.1 z
  funs:=I2.stack
  frf:=I2.stkFree}
 have hokD:HOk X.prog X.w (upd H2 s2.heap.objs.size (.lst [])) h₁:=I2.hok.laid old (zq0 _) ⟨cm _,zAD ([]) 0 .nil hacc⟩;have clD:∀y c,((z0,G2.objs.size+1)::cY X.env.cells scope.names []).lookup y=some c->c≠s2.heap.objs.size:=fun y c e=>by
  rcases split y c e with ⟨a1,b1⟩ | ⟨a1,b1⟩
  ·subst b1;omega
  ·exact cx (clt y c b1)
 have I3:Inv (X.blkZ z0 (".0"::(tns++cns)) scope ⟨G2.objs.size,fp,s2,H2⟩) [] (aL (List.replicate tns.length none) ci σ) (upd H2 s2.heap.objs.size (.lst [])) {s2 with heap:=h₁}:={
  ok:=ok
  os:=rfl
  bare:=I2.bare
  base:=⟨fun b o e n _ _=>old b o e,fun b o e n _ _=>⟨o.slots,old b o e⟩,fun b o e n _=>by rw [ao (nlt e)];exact n,fun b o e _=>⟨o,old b o e⟩,
   fun b ys e=>by rw [ao (am e hnD)];exact e,fun b o u e=>by rw [ao (am e hnD)];exact e,fun b ps e=>⟨#[],by rw [ao (am e hnD),Array.append_empty];exact e⟩⟩
  loc:=⟨_,hns₁,fun i y v e1 e2 e3=>by
   have e1':((".0":Str)::(tns++cns))[i]?=some y:=e1;unfold aL at e2
   cases i with
   |zero=>simp at e2
   |succ i=>
    rw [A4] at e1' e2
    by_cases hi:i<tns.length
    ·rw [jE (by simpa using hi),A0,if_pos hi] at e2
     cases e2
    ·rw [jh Jy] at e1';rw [jh (by simp;omega),A1] at e2;obtain ⟨q,hq,hN,hm⟩:=S.cap _ _ e1';rw [cn,hq] at e2;have e2':(σ[q]?).join=some v:=by simpa using e2
     have e4:σ[q]?=some (some v):=by
      cases z:σ[q]? with
      |none=>rw [z] at e2';cases e2'
      |some o=>rw [z] at e2';rw [show o=some v from e2']
     obtain ⟨m,hns,hl⟩:=I2.loc;have hvis:Vis X.env.scope y:=by
      rcases S.free (y,.free) hm rfl with z | z
      ·exact .inr (.inl z)
      ·exact .inr (.inr z)
     obtain ⟨u,ru,lk⟩:=hl q y v hN e4 hvis;refine zn u ru (.inr ?_);have hkk:X.env.kindOf y=some .cell\/X.env.kindOf y=some .free:=S.free (y,.free) hm rfl;have hyz:y≠z0:=fun e=>S.nofree (e ▸ hm);rcases lk with ⟨k1,_⟩ | ⟨_,c,hc1,hc2⟩
     ·rcases hkk with z | z<;>(rw [k1] at z;cases z)
     ·obtain ⟨c',hc'⟩:=dY (cells:=X.env.cells) (acc:=[]) hm;have ecc:c'=c:=by have:=hsub y c' hc';rw [hc1] at this;cases this;rfl
      subst ecc;have e3':Vis (relabel scope X.env) y:=e3;refine ⟨?_,zn c' ?_ ?_⟩
      ·rcases e3' with z | z | z
       ·exfalso;exact S.noloc y hm z
       ·exact .inl z
       ·exact .inr z
      ·show ((z0,G2.objs.size+1)::cY X.env.cells scope.names []).lookup y=some c';rw [qG,beq_eq_false_iff_ne.mpr hyz];exact hc'
      ·exact hc2.keeps old⟩
  cell:=fun y c e=>by
   rcases split y c e with ⟨a1,b1⟩ | ⟨a1,b1⟩
   ·subst b1;exact ⟨_,hcl₁⟩
   ·obtain ⟨v,q⟩:=I2.cell y c (hsub y c b1);exact ⟨v,q.keeps old⟩
  free:=by show upd H2 s2.heap.objs.size (.lst []) G2.objs.size=none;rw [ao (Ne.symm hDC)];exact hnC
  freeC:=fun y c e=>by
   rw [ao (clD y c e)];rcases split y c e with ⟨a1,b1⟩ | ⟨a1,b1⟩
   ·subst b1;exact hnE
   ·exact I2.freeC y c (hsub y c b1)
  pin:=fun p hp=>by have hp':p∈([]:List (Addr×Obj))++[]:=hp;simp at hp'
  hok:=hokD
  len:=by show (aL _ ci σ).length=((".0":Str)::(tns++cns)).length;unfold aL;simp [S.len]}
 have st3:tn 0 h₁:=T.keep _ _ _ st2 fun b _ o e=>old b o e;have fr3:∀b∈fp,upd H2 s2.heap.objs.size (.lst []) b=none:=fun b hb=>by rw [ao (cx (fpl b hb))];exact (f2 b hb).1
 have stat:∀{H':Hp},(∀b∈fp,H' b=none)->∀b∈fp,ju (X.blkZ z0 (".0"::(tns++cns)) scope ⟨G2.objs.size,fp,s2,H2⟩) [] H' b:=fun hn b hb=>zAQ (hn b hb) (below b (fpl b hb)) (ok.exfs b hb) (.inl hb) (fun y c e=>(ok.exf b hb).2 y c e) fun p hp=>by have hp':p∈([]:List (Addr×Obj))++[]:=hp;simp at hp'
 have loop:∀s₃:Shared,s₃={s2 with heap:=h₁}->
   codeAny (model X.prog X.w) X.A (.compLoop (.ListComp elt [⟨tgt,iter,ifs,0⟩] scope pos) 0 (.ref it) (.ref s2.heap.objs.size) (compEnvC scope ((z0,G2.objs.size+1)::cY X.env.cells scope.names []) G2.objs.size X.env))
    (RR (.ref s2.heap.objs.size) G2.objs.size) s₃:=by
  rintro s₃ rfl;refine ix (fun n s'=>∃(i:Nat)(os:List (Option V)) (ys:List V) (H':Hp),os.length=tns.length/\Inv (X.blkZ z0 (".0"::(tns++cns)) scope ⟨G2.objs.size,fp,s2,H2⟩) [] (aL os ci σ) H' s'/\tn i s'.heap/\(∀b∈fp,H' b=none)/\W i n ys H') ?_ m0 (zAM 0 _ ([]) _ Jz I3 st3 fr3 w0);rintro n s4 ⟨i,os,ys,H4,hos,I4,st4,fr4,w4⟩;rcases turn i n ys H4 w4 with ⟨stop,q⟩ | ⟨go,N,hN,step⟩
  ·refine thn (T.done (X.blkZ z0 (".0"::(tns++cns)) scope ⟨G2.objs.size,fp,s2,H2⟩) rfl rfl rfl hc i [] s4 _ H4 (fun _ _=>False) I4 (stat fr4) st4 stop) fun r s5 ⟨hr,I5⟩=>?_;subst hr;obtain ⟨m,hm,_⟩:=I5.loc;have fC:H4 G2.objs.size=none:=I5.free;have ub:Un (frs X.stack) fp H2 H4 s2.heap s5.heap:=I5.base;have IX:Inv X pins σ H4 s5:=I2.call' (s':=s5) (show s5.os=s2.os from I5.os) ub I5.hok I5.bare fun b hb=>zAG (f2 b hb).2.2.2.1 (f2 b hb).2.1 (f2 b hb).2.2.2.2.1 (f2 b hb).2.2.2.2.2
   exact fin _ _ s5 H4 m IX hm (I2.fpOk Jy fC) q
  ·refine thn (T.item (X.blkZ z0 (".0"::(tns++cns)) scope ⟨G2.objs.size,fp,s2,H2⟩) rfl rfl rfl hc i [] s4 _ H4 (fun _ _=>False) I4 (stat fr4) st4 go) fun r s5 ⟨u,hr,h5⟩=>?_;subst hr;refine thn h5 fun _ s6 hhx=>?_;obtain ⟨y,H6,I6,r6,y6,st6,fr6⟩:=hhx;have I6':=I6.pinned (stat fr6) (T.obj _ _ st6);refine thn (hg _ _ s6 _ H6 y u _ I6' r6 (step y H6 os hos y6)) fun _ s7 ⟨σ7,H7,I7,⟨os',hos',e7⟩,q7⟩=>?_;subst e7;have back:∀{H9:Hp} {s9:Shared},Inv (X.blkZ z0 (".0"::(tns++cns)) scope ⟨G2.objs.size,fp,s2,H2⟩) ([]++ic fp s6.heap) (aL os' ci σ) H9 s9->tn (i+1) s9.heap/\∀b∈fp,H9 b=none:=fun {H9 s9} I9=>⟨T.keep _ _ _ st6 fun b hb ob e=>(I9.pin (b,ob) (dC _ (dC _ (cP hb e)))).1,fun b hb=>by obtain ⟨ob,e,d⟩:=T.obj _ _ st6 b hb;exact (I9.pin (b,ob) (dC _ (dC _ (cP hb e)))).2.1⟩
   refine thn (ht _ _ s7 _ H7 _ I7 q7) fun b s8 hhx=>?_;obtain ⟨H8,I8,q8⟩:=hhx
   cases b with
   |false=>
    rw [if_neg zq3] at q8 ⊢;obtain ⟨m',hm',w8⟩:=hN _ _ q8;exact zn m' hm' (zAM (i+1) os' ys _ hos' I8.unpinned (back I8).1 (back I8).2 w8)
   |true=>rw [if_pos rfl] at q8 ⊢;refine thn (he _ _ s8 _ H8 _ I8 q8) fun zv s8 hhx=>?_;obtain ⟨z,H8,I8,rz,ha8,hl8,n8⟩:=hhx;obtain ⟨m',hm',w8⟩:=hN _ _ n8;refine thn (bg (X:=X.blkZ z0 (".0"::(tns++cns)) scope ⟨G2.objs.size,fp,s2,H2⟩) _ s8 _ H8 (.ref s2.heap.objs.size) [z] (.ref s2.heap.objs.size) [zv] (fun _ H9=>H9=upd H8 s2.heap.objs.size (.lst (ys++[z]))) I8 rfl (.cons rz .nil) (zAL _ ys z rfl rfl ha8 hl8 rfl)) fun _ s9 hhx=>?_;obtain ⟨_,H9,I9,_,e9⟩:=hhx;subst e9;exact zn m' hm' (zAM (i+1) os' (ys++[z]) _ hos' I9.unpinned (back I9).1 (back I9).2 w8)
 exact codeAny_compStart_list (loop _ rfl) (T.self _ 0 _ _ _ st3 (loop _ rfl))
theorem yo{X:Cx}{elt iter tgt:Expr}{ifs:List Expr}{pos:Pos}{scope:Scope}{z0:Str}{wi:TI}{g:Bk->TG}{tt:Bk->TT}{te:Bk->TE}{tns cns:List Str}{ci:List Nat}(hc:X.calm=true)(S:CompScZ X z0 scope cns ci)(hi:PI X tgt iter wi)
  (hg:∀bk:Bk,PG (X.blkZ z0 (".0"::(tns++cns)) scope bk) tgt (g bk))
  (ht:∀bk:Bk,uU (X.blkZ z0 (".0"::(tns++cns)) scope bk) ifs (tt bk))
  (he:∀bk:Bk,PE (X.blkZ z0 (".0"::(tns++cns)) scope bk) elt (te bk))
  (hs:∀v,foldedSetIterable iter X.env v=pure v:=by intro _;rfl) :
  PE X (.ListComp elt [⟨tgt,iter,ifs,0⟩] scope pos) (kJ wi g tt te tns.length ci):=by
 intro pins s σ H Q I h;have hfc:∀y∈scope.names,y.2=.free->∃c,X.env.cells.lookup y.1=some c:=fun y hy hk=>I.ok.has _ (S.free y hy hk);rw [eval_ListComp];refine wpAny_comprehension_free (use:=none) rfl hs (eM hfc) S.kind S.names (thn (hi pins s σ H _ I h) fun v s1 h1=>thn h1 fun itv s2 h2=>?_);obtain ⟨it,fp,tn,J,H2,rfl,I2,T,st2,f2,hcw⟩:=h2;refine qS (RR:=fun acc C=>compPost (model X.prog X.w) X.A X.xe none (EP X pins σ Q) acc C) hc S hg ht he I2 T st2 f2 hcw fun D C s5 H4 m I5 hm fo q=>?_;refine zn m hm fun h' hs'=>zAA (.ref D) H4 ?_ rfl q;exact I5.turned (t':=s5.toks) (it:=C) (fun b o hb e=>(hs'.2 b hb).trans e) fo.1 fo.2.1 fo.2.2.2.1 fo.2.2.2.2.1 fo.2.2.2.2.2
def GR(osc:Scope)(N:List Str)(z0:Str)(scope:Scope)(cns:List Str)(ci:List Nat):Bool:=
 scope.kind==.function&&scope.names.all (fun y=>y.2 != .local || scope.names.lookup y.1==some .local) &&
 scope.names.all (fun y=>y.2 != .free || (osc.names.lookup y.1==some .cell || osc.names.lookup y.1==some .free))&&jR N scope.names cns ci &&
 scope.names.all (fun y=>y.2 != .free || (w9 scope osc).lookup y.1 != some .local)&&scope.names.all (fun y=>y.2 != .free || y.1 != z0)&&scope.names.all (fun y=>y.2 != .cell || y.1==z0)
theorem gB{osc:Scope}:∀{names:List (Str×NameKind)} {y:Str} {k:NameKind},(names.map fun (n,k)=>if (k==NameKind.free&&osc.kind==.function&&osc.names.lookup n==some .cell) then (n,NameKind.cell) else (n,k)).lookup y=some k->k=.cell\/k=.free->
  (y,NameKind.cell)∈names\/(y,NameKind.free)∈names
 | [],_,_,h,_=>by simp at h
 | (n,k0)::r,y,k,h,hk=>by
  rw [d9,qG] at h
  by_cases hf:(k0==NameKind.free&&osc.kind==.function&&osc.names.lookup n==some .cell)=true
  ·simp only [hf,if_true] at h;have k0f:k0=.free:=by have:=hf;simp only [Bool.and_eq_true] at this;simpa using this.1.1
   split at h
   ·next hq=>
    have:y=n:=by simpa using hq
    subst this;subst k0f;exact .inr eD
   ·exact (gB h hk).imp (zq6 _) (zq6 _)
  ·simp only [hf] at h
   split at h
   ·next hq=>
    have:y=n:=by simpa using hq
    subst this;have e:k0=k:=by simpa using h
    subst e;rcases hk with z | z
    ·subst z;exact .inl eD
    ·subst z;exact .inr eD
   ·exact (gB h hk).imp (zq6 _) (zq6 _)
theorem CompScZ.of{X:Cx}{z0:Str}{scope:Scope}{cns:List Str}{ci:List Nat}(h:GR X.env.scope X.N z0 scope cns ci=true)
  (hc:∀n acc,cellsFrom n scope.names acc=(z0,n)::acc) (hp:∀h,pushCells h scope.names=h.push {cls:=.type "cell",data:=.cell none}):CompScZ X z0 scope cns ci:=by
 unfold GR at h;rw [dB,dB,dB,dB,dB,dB] at h;obtain ⟨⟨⟨⟨⟨⟨h1,h3⟩,h4⟩,h5⟩,h6⟩,h7⟩,h8⟩:=h;obtain ⟨l,r⟩:=j4 h5;refine ⟨by simpa using h1,fun y hy hk=>?_,fun y hy hk=>?_,r,l,fun y hy z=>?_,fun hm=>?_,fun y hy=>?_,hc,hp⟩
 ·have:=zq36.mp h3 y hy;rw [nP] at this;rcases this with q | q
  ·exact absurd hk (by simpa using q)
  ·simpa using q
 ·have:=zq36.mp h4 y hy;rw [nP,nP] at this;rcases this with q | q | q
  ·exact absurd hk (by simpa using q)
  ·exact .inl (show X.env.scope.names.lookup y.1=_ by simpa using q)
  ·exact .inr (show X.env.scope.names.lookup y.1=_ by simpa using q)
 ·have:=zq36.mp h6 _ hy;rw [nP] at this;rcases this with q | q
  ·simp at q
  ·have z':(w9 scope X.env.scope).lookup y=some .local:=z;have q':((w9 scope X.env.scope).lookup y != some .local)=true:=q;rw [z'] at q';exact absurd q' Jx
 ·have:=zq36.mp h7 _ hm;simp at this
 ·have key:(y,NameKind.cell)∈scope.names\/(y,NameKind.free)∈scope.names:=by
   rcases hy with z | z
   ·exact gB (osc:=X.env.scope) z (.inl rfl)
   ·exact gB (osc:=X.env.scope) z (.inr rfl)
  rcases key with z | z
  ·have:=zq36.mp h8 _ z
   left;simpa using this
  ·exact .inr z
theorem wD{X:Cx}{elt iter tgt:Expr}{ifs:List Expr}{pos:Pos}{scope:Scope}{z0:Str}{wi:TI}{g:Bk->TG}{tt:Bk->TT}{te:Bk->TE}{tns cns:List Str}{ci:List Nat}(hc:X.calm=true)(S:CompScZ X z0 scope cns ci)(hi:XI X tgt iter wi)
  (hg:∀bk:Bk,XG (X.blkZ z0 (".0"::(tns++cns)) scope bk) tgt (g bk))
  (ht:∀bk:Bk,wW (X.blkZ z0 (".0"::(tns++cns)) scope bk) ifs (tt bk))
  (he:∀bk:Bk,XE (X.blkZ z0 (".0"::(tns++cns)) scope bk) elt (te bk))
  (hs:∀v,foldedSetIterable iter X.env v=pure v:=by intro _;rfl) :
  XE X (.ListComp elt [⟨tgt,iter,ifs,0⟩] scope pos) (kJ wi g tt te tns.length ci):=⟨yo hc S hi.h (fun bk=>(hg bk).h) (fun bk=>(ht bk).h) (fun bk=>(he bk).h) hs⟩
end L2
namespace L2
variable {a0 a1 a10 a11 a12 a13 a14 a15 a2 a3 a4 a5 a6 a7 a8 a9:Option V} {i:Int} {r:St} {x:V}
def C7:Nat->St->Option V
 |0,o::_=>o
 |n+1,_::r=>C7 n r
 |_,[]=>none
theorem qi:∀{n:Nat} {σ:St} {v:V},C7 n σ=some v->σ[n]?=some (some v)
 |0,o::_,v,h=>by rw [show C7 0 (o::_)=o from rfl] at h;rw [h];rfl
 |n+1,_::r,v,h=>by rw [A4];exact qi h
 |0,[],_,h=>by cases h
 |_+1,[],_,h=>by cases h
def dh(i:Nat):TE:=fun σ H Q=>match C7 i σ with
 |some v=>Q v H
 |none=>False
theorem Cm{i:Nat}{σ:St}{H:Hp}{Q:VK}(h:dh i σ H Q):Gy i σ H Q:=by
 unfold dh at h
 split at h
 ·next v e=>exact zn v (qi e) h
 ·exact h.elim
theorem yqv{X:Cx}(i:Nat){x:Str}{pos:Pos}(hv:Vis X.env.scope x)(hN:X.N[i]?=some x:=by rfl)(hd:(x==("__debug__":Str))=false:=by kernel_rfl) (hcd:(x==("__classdict__":Str))=false:=by kernel_rfl):XE X (.Name x pos) (dh i):=
 ⟨fun pins s σ H Q I h=>qv i hv hN hd hcd pins s σ H Q I (Cm h)⟩
def yI0(g:Int->Int->V):R2:=fun x y H Q=>match x,y with
 | .int i,.int j=>Q (g i j) H
 |_,_=>False
def yI(C:Int->Int->Prop)(g:Int->Int->V):R2:=fun x y H Q=>match x,y with
 | .int i,.int j=>C i j/\Q (g i j) H
 |_,_=>False
def yU(g:Int->V):V->Hp->VK->Prop:=fun x H Q=>match x with
 | .int i=>Q (g i) H
 |_=>False
theorem fH{g:Int->Int->V}{y:V}{H:Hp}{Q:VK}(h:yI0 g x y H Q):rI0 g x y H Q:=by
 unfold yI0 at h
 split at h
 ·exact zAA _ _ rfl rfl h
 ·exact h.elim
theorem mE{C:Int->Int->Prop}{g:Int->Int->V}{y:V}{H:Hp}{Q:VK}(h:yI C g x y H Q):rI C g x y H Q:=by
 unfold yI at h
 split at h
 ·exact zAA _ _ rfl rfl h
 ·exact h.elim
theorem Iz{g:Int->V}{H:Hp}{Q:VK}(h:yU g x H Q):rU g x H Q:=by
 unfold yU at h
 split at h
 ·exact zn _ rfl h
 ·exact h.elim
section
variable {X:Cx}
theorem OpR.le{f:Value->Value->Sem Value}{r r':R2}(h:OpR X f r)(le:∀{x y:V} {H:Hp} {Q:VK},r' x y H Q->r x y H Q):OpR X f r':=fun pins s σ H x y v u Q I rx ry q=>h pins s σ H x y v u Q I rx ry (le q)
theorem bo:OpR X (binaryOp .Add) (yI0 fun i j=>.int (i+j)):=OpR.le EE fH
theorem gL:OpR X (binaryOp .Sub) (yI0 fun i j=>.int (i-j)):=OpR.le EL fH
theorem d8:OpR X (binaryOp .Mult) (yI CMul fun i j=>.int (i * j)):=OpR.le EH mE
theorem aX:OpR X (binaryOp .Mod) (yI (fun _ j=>0<j) fun i j=>.int (i % j)):=OpR.le EG mE
theorem uG:OpR X (binaryOp .Pow) (yI uS fun i j=>.int (i ^ j.toNat)):=OpR.le EJ mE
theorem eK:OpR X (binaryOp .LShift) (yI uS fun i j=>.int (i * 2 ^ j.toNat)):=OpR.le EK mE
theorem Co:OpR X (binaryOp .BitAnd) (yI0 fun i j=>.int (Builtin.bitAnd i j)):=OpR.le EF fH
theorem GI:OpR X (binaryOp .BitOr) (yI0 fun i j=>.int (Builtin.bitOr i j)):=OpR.le Hn fH
theorem Cp:OpR X (binaryOp .BitXor) (yI0 fun i j=>.int (Builtin.bitXor i j)):=OpR.le EM fH
theorem g9:OpR X (compareOp .Lt) (yI0 fun i j=>.bl (decide (i<j))):=OpR.le Hm fH
theorem sC:OpR X (compareOp .LtE) (yI0 fun i j=>.bl (decide (i<=j))):=OpR.le Hl fH
theorem ij:OpR X (compareOp .Gt) (yI0 fun i j=>.bl (decide (j<i))):=OpR.le Hk fH
theorem GH:OpR X (compareOp .GtE) (yI0 fun i j=>.bl (decide (j<=i))):=OpR.le Hj fH
theorem bh:OpR X (binaryOp .FloorDiv) (yI CDivB fun i j=>.int (i / j)):=OpR.le yh mE
theorem zW:OpR X (binaryOp .Mult) (yI IntMulOk fun i j=>.int (i * j)):=OpR.le Bw mE
theorem eL:UnR X (unaryOp .USub) (yU fun i=>.int (-i)):=fun pins s σ H x v Q I rx q=>GB pins s σ H x v Q I rx (Iz q)
end
section
variable {H:Hp} {Q:VK}
theorem Jl{v:V}:dh 0 (some v::r) H Q=Q v H:=rfl
theorem Jm{v:V}:dh 1 (a0::some v::r) H Q=Q v H:=rfl
theorem Jn{v:V}:dh 2 (a0::a1::some v::r) H Q=Q v H:=rfl
theorem Jo{v:V}:dh 3 (a0::a1::a2::some v::r) H Q=Q v H:=rfl
theorem Jp{v:V}:dh 4 (a0::a1::a2::a3::some v::r) H Q=Q v H:=rfl
theorem Jq{v:V}:dh 5 (a0::a1::a2::a3::a4::some v::r) H Q=Q v H:=rfl
theorem Jr{v:V}:dh 6 (a0::a1::a2::a3::a4::a5::some v::r) H Q=Q v H:=rfl
theorem Js{v:V}:dh 7 (a0::a1::a2::a3::a4::a5::a6::some v::r) H Q=Q v H:=rfl
theorem Jt{v:V}:dh 8 (a0::a1::a2::a3::a4::a5::a6::a7::some v::r) H Q=Q v H:=rfl
theorem Ju{v:V}:dh 9 (a0::a1::a2::a3::a4::a5::a6::a7::a8::some v::r) H Q=Q v H:=rfl
theorem IA{v:V}:dh 10 (a0::a1::a2::a3::a4::a5::a6::a7::a8::a9::some v::r) H Q=Q v H:=rfl
theorem IB{v:V}:dh 11 (a0::a1::a2::a3::a4::a5::a6::a7::a8::a9::a10::some v::r) H Q=Q v H:=rfl
theorem IC{v:V}:dh 12 (a0::a1::a2::a3::a4::a5::a6::a7::a8::a9::a10::a11::some v::r) H Q=Q v H:=rfl
theorem ID{v:V}:dh 13 (a0::a1::a2::a3::a4::a5::a6::a7::a8::a9::a10::a11::a12::some v::r) H Q=Q v H:=rfl
theorem IE{v:V}:dh 14 (a0::a1::a2::a3::a4::a5::a6::a7::a8::a9::a10::a11::a12::a13::some v::r) H Q=Q v H:=rfl
theorem IF{v:V}:dh 15 (a0::a1::a2::a3::a4::a5::a6::a7::a8::a9::a10::a11::a12::a13::a14::some v::r) H Q=Q v H:=rfl
theorem IG{v:V}:dh 16 (a0::a1::a2::a3::a4::a5::a6::a7::a8::a9::a10::a11::a12::a13::a14::a15::some v::r) H Q=Q v H:=rfl
theorem IH{v:V}{a16:Option V}:dh 17 (a0::a1::a2::a3::a4::a5::a6::a7::a8::a9::a10::a11::a12::a13::a14::a15::a16::some v::r) H Q=Q v H:=rfl
theorem II{v:V}{a16:Option V}{a17:Option V}:dh 18 (a0::a1::a2::a3::a4::a5::a6::a7::a8::a9::a10::a11::a12::a13::a14::a15::a16::a17::some v::r) H Q=Q v H:=rfl
theorem Jk{g:Int->Int->V}{j:Int}:yI0 g (.int i) (.int j) H Q=Q (g i j) H:=rfl
theorem y_I{C:Int->Int->Prop}{g:Int->Int->V}{j:Int}:yI C g (.int i) (.int j) H Q=(C i j/\Q (g i j) H):=rfl
theorem y_U{g:Int->V}:yU g (.int i) H Q=Q (g i) H:=rfl
end
end L2
end
set_option maxHeartbeats 4000000
namespace FA
open PySem L2 PyProof.Rows
def d3(c k:Int):Int:=
 if 10 ^ Int.toNat 40<=c then (c-10 ^ Int.toNat 40) / (1 * 2 ^ (100 * (k % 60)).toNat) % (1 * 2 ^ Int.toNat 100)
 else ((c * c+3 * c+7919 * k+1) * 48271 % 2147483629 * ((c * c+3 * c+7919 * k+1) * 48271 % 2147483629)+7) % 2147483587
theorem pA(c k:Int):0<=d3 c k:=by
 unfold d3
 split
 ·exact eO _ Jx
 ·exact eO _ Jx
theorem CDivB.pow{i:Int}{n:Nat}(h:n<9000):CDivB i (1 * 2 ^ n):=by rw [nR];refine ⟨qH Jx,?_⟩;rw [Int.natAbs_pow];show (2 ^ n).log2<9000;rw [Nat.log2_two_pow];exact h
theorem Bc{c:Int}(h:Builtin.Int.intBits c<=2 ^ 20):IntMulOk c c:=mulOk_of_bits h h Jx
def ltr(z:Int):Nat:=97+(z % 26).toNat
def IR(m pl k:Int)(j:Nat):Int:=m / 36+j * j+(if decide ((j:Int)=pl)=true then 1 else 0) * k
def nm(m pl k:Int):Nat->Str
 |0=>""
 |j+1=>nm m pl k j++⟨#[ltr (IR m pl k j)]⟩
theorem rn(m pl k:Int):∀j,(nm m pl k j).length=j
 |0=>by show ("":Str).length=0;decide +kernel
 |j+1=>by rw [nm,strLen_append,rn m pl k j];rfl
def nms(m:Int)(n:Nat):List Str:=(List.range n).map fun (k:Nat)=>nm m (m / 6 % (1+m % 6)) k (1+m % 6).toNat
theorem xQ(m:Int)(n:Nat):nms m (n+1)=nms m n++[nm m (m / 6 % (1+m % 6)) n (1+m % 6).toNat]:=by unfold nms;rw [A8,cy,uP]
def IQ:List Str:=["tell","end","if","in","box","while","else","plus"]
def cv(c:Int):List Str:=if d3 c 3 / 1000 % 5=1 then IQ else nms (d3 c 3) 8
theorem Hh:∀n:Nat,n<26->atI ("abcdefghijklmnopqrstuvwxyz":Str).cps.toList (n:Int)=some (97+n):=by decide +kernel
theorem Ew(z:Int):atI ("abcdefghijklmnopqrstuvwxyz":Str).cps.toList (z % 26)=some (ltr z):=by have h0:0<=z % 26:=eO _ Jx;have h1:z % 26<26:=gc _ Jx;unfold ltr;obtain ⟨n,hn⟩:=lC h0;rw [hn];exact Hh n Jy
def jz(m:Int)(ns:List Str):Str:=ns.getD (m % (ns.length:Int)).toNat ""
theorem nu{m:Int}{ns:List Str}(h:¬ns=[]):atI (ns.map V.str) (m % (ns.length:Int))=some (.str (jz m ns)):=by
 have hl:0<ns.length:=zq47.mpr h;have h0:0<=m % (ns.length:Int):=eO _ Jy;have h1:m % (ns.length:Int)<ns.length:=gc _ Jy;unfold jz;obtain ⟨n,hn⟩:=lC h0;rw [hn];refine cf ?_;have hn':n<ns.length:=by omega
 rw [cn,jF,fJ,zq8 hn'];rfl
theorem iI{m:Int}{ns:List Str}(h:¬ns=[]):jz m ns∈ns:=by
 have hl:0<ns.length:=zq47.mpr h;have h0:0<=m % (ns.length:Int):=eO _ Jy;have h1:m % (ns.length:Int)<ns.length:=gc _ Jy;unfold jz;have hn':(m % (ns.length:Int)).toNat<ns.length:=by omega
 rw [fJ,zq8 hn'];exact nQ hn'
def ni(m:Int)(ns:List Str)(w:Int):V:=if 0<m % 3/\¬ns=[] then .str (jz (m / 3) ns) else .int (m / 3 % (1 * 2 ^ w.toNat))
def opsL:List Str:=["plus","less","and","or","xor","below","same"]
def oM(m:Int)(ns:List Str)(w:Int):List V:=
 if m % 9=0\/ns=[] then [.str "tell",ni (m / 16) ns w]
 else if m % 9=1 then [.str "copy",.str (jz (m / 7) ns),ni (m / 16) ns w]
 else [.str (opsL.getD (m % 9-2).toNat ""),.str (jz (m / 7) ns),ni (m / 16) ns w,ni (m / 1009) ns w]
theorem By:∀n:Nat,n<7->atI [V.str "plus",V.str "less",V.str "and",V.str "or",V.str "xor",V.str "below",V.str "same"] (n:Int)=some (.str (opsL.getD n "")):=by decide +kernel
theorem EN{j:Int}(h0:0<=j)(h7:j<7):atI [V.str "plus",V.str "less",V.str "and",V.str "or",V.str "xor",V.str "below",V.str "same"] j=some (.str (opsL.getD j.toNat "")):=by obtain ⟨n,rfl⟩:=lC h0;rw [jF];exact By n (Int.ofNat_lt.mp h7)
end FA
namespace L2
open PySem PyProof.Rows
variable {H H':Hp}
theorem xC{A:Around}{k n:Nat}(h:n<=64)(hr:Room k A):A.units+n<cLine:=Az (Nat.add_le_add_left h _) hr.units
theorem qu{α β:Type}{f:Nat->α->β}{xs:List α}{i:Nat}{x:α}(h:xs[i]?=some x):(xs.take (i+1)).mapIdx f=(xs.take i).mapIdx f++[f i x]:=by obtain ⟨hl,e⟩:=zq10.mp h;rw [eg hl,e,List.mapIdx_append,dS,wL (nO hl)];simp
theorem sU{xs:List V}{k:Int}(h:0<=k):gM xs none (some k)=xs.take k.toNat:=by
 obtain ⟨n,rfl⟩:=lC h;unfold gM;rw [HT.pQ,HT.nA,A9,jF,AC]
 by_cases hn:n<=xs.length
 ·rw [wL hn]
 ·rw [Aa Jy,eE,nT Jy]
theorem oJ{xs:List V}{k l:Int}(h:0<=k)(h2:0<=l):gM xs (some k) (some l)=(xs.take l.toNat).drop k.toNat:=by
 obtain ⟨n,rfl⟩:=lC h;obtain ⟨m,rfl⟩:=lC h2;unfold gM;rw [HT.nA,HT.nA,jF,jF]
 by_cases hn:n<=xs.length
 ·rw [wL hn]
  by_cases hm:m<=xs.length
  ·rw [wL hm,List.drop_take]
  ·rw [Aa Jy,nT Jz,nT Jy]
 ·rw [Aa (show xs.length<=n by omega),DU (zq0 _),DU (by rw [dS];omega)];simp
section
variable {K:W.Frag} {te:TE} {ci:List Nat} {σ:St} {acc:Addr} {Q:Hp->Prop} {H1:Hp} {a:Addr} {xs:List V}
theorem i6{α:Type}(xs:List α):xs.filter (fun _=>true)=xs:=by simp
theorem AY(f:V->V)(hz:xs.length<=sizeLine)(hl:SqT K H1 a xs)(hacc:H1 acc=none)(hf:∀x∈xs,∀H Q',Same H1 H->Q' (f x) H->te (aL [some x] ci σ) H Q')
  (q:Q (upd H1 acc (.lst (xs.map f)))):ce (Itt K a) (bD 1) gO te 1 ci σ acc Q (upd H1 acc (.lst [])):=
 oC (fun _=>true) f hz hl hacc (fun _ _ _ _ _ h=>h) (fun x hm H Q' s _ h=>hf x hm H Q' s h) (by rw [i6];exact q)
end
structure TSame(H H':Hp):Prop where
 tup:∀b xs,H b=some (.tup xs)->H' b=some (.tup xs)
 frz:∀b o u,H b=some (.frz o u)->H' b=some (.frz o u)
theorem Same.ts(s:Same H H'):TSame H H':=⟨fun b xs e=>s b _ e,fun b o u e=>s b _ e⟩
theorem TSame.trans{H1 H2:Hp}(a:TSame H H1)(b:TSame H1 H2):TSame H H2:=⟨fun c xs e=>b.tup c xs (a.tup c xs e),fun c o u e=>b.frz c o u (a.frz c o u e)⟩
theorem TSame.updL{p:Addr}{ys:List V}{o:HO}(h:H p=some (.lst ys)):TSame H (upd H p o):=
 ⟨fun b xs e=>by rw [ao (bw e h (by intro z;cases z))];exact e,fun b o u e=>by rw [ao (bw e h (by intro z;cases z))];exact e⟩
theorem TSame.seqT{K:W.Frag}{a:Addr}{xs:List V}(e:TSame H H')(h:SqT K H a xs):SqT K H' a xs:=by
 rcases h with (h | ⟨o,h⟩) | h
 ·exact .inl (.inl (e.tup _ _ h))
 ·exact .inl (.inr ⟨o,e.frz _ _ _ h⟩)
 ·exact .inr h
def DeedV(K:W.Frag)(H:Hp)(x:V)(d:FB.Deed):Prop:=d.fine/\∃q,x=.ref q/\SqT K H q d.vs
theorem DeedV.ts{K:W.Frag}{x:V}{d:FB.Deed}(s:TSame H H')(h:DeedV K H x d):DeedV K H' x d:=⟨h.1,let ⟨q,e,z⟩:=h.2;(zn q e (s.seqT z))⟩
abbrev DeedsV (K:W.Frag) (H:Hp):List V->List FB.Deed->Prop:=Paired (DeedV K H)
theorem DeedsV.ts{K:W.Frag}{xs:List V}{ds:List FB.Deed}(s:TSame H H')(h:DeedsV K H xs ds):DeedsV K H' xs ds:=h.mono fun _ _ z=>z.ts s
end L2
namespace FA
open PySem L2
def pH(m:Int)(ns:List Str)(w:Int):FB.Opd:=if 0<m % 3/\¬ns=[] then .box (jz (m / 3) ns) else .word (m / 3 % (1 * 2 ^ w.toNat))
theorem rG{m:Int}{ns:List Str}{w:Int}:(pH m ns w).v=ni m ns w:=by
 unfold pH ni
 split<;>rfl
def fh(m:Int)(ns:List Str)(w:Int):FB.Deed:=
 if m % 9=0\/ns=[] then .tell (pH (m / 16) ns w)
 else if m % 9=1 then .copy (jz (m / 7) ns) (pH (m / 16) ns w)
 else .op (opsL.getD (m % 9-2).toNat "") (jz (m / 7) ns) (pH (m / 16) ns w) (pH (m / 1009) ns w)
theorem vd{m:Int}{ns:List Str}{w:Int}:(fh m ns w).vs=oM m ns w:=by
 unfold fh oM
 split
 ·simp only [FB.Deed.vs,rG]
 ·split
  ·simp only [FB.Deed.vs,rG]
  ·simp only [FB.Deed.vs,rG]
theorem jl{m:Int}{ns:List Str}{w:Int}:(fh m ns w).fine:=by
 unfold fh
 split
 ·trivial
 ·split
  ·trivial
  ·show opsL.getD (m % 9-2).toNat ""∈FB.opsL;have h0:0<=m % 9:=eO _ Jx;have h1:m % 9<9:=gc _ Jx;have h:∀n:Nat,n<7->opsL.getD n ""∈FB.opsL:=by decide +kernel
   by_cases h2:m % 9-2<7
   ·exact h _ Jy
   ·exact absurd h1 Jy
end FA
namespace FL
open PySem L2 PyProof.Rows
def z9(n:Nat):List Int:=(List.range n).map fun i:Nat=>(i:Int)
def sG(b:List Int):Prop:=b≠[]/\b.Pairwise (·<=·)
instance (b:List Int):Decidable (sG b):=by unfold sG;infer_instance
structure AI(n:Nat)(bss:List (List Int)):Prop where
 good:∀b∈bss,sG b
 perm:bss.flatten.Perm (z9 n)
instance (n:Nat) (bss:List (List Int)):Decidable (AI n bss):=decidable_of_iff ((∀b∈bss,sG b)/\bss.flatten.Perm (z9 n)) ⟨fun ⟨a,b⟩=>⟨a,b⟩,fun h=>⟨h.good,h.perm⟩⟩
theorem sZ{i j:Int}:eqV (.int i) (.int j)=decide (i=j):=by first | rfl | (unfold eqV;simp)
theorem tD{n k:Nat}(h:k<n):ixN n (k:Int)=some k:=by unfold ixN;rw [if_pos Jy,if_pos Jy,jF]
end FL
namespace FL
open PySem L2 PyProof.Rows
theorem Paired.mem{α β:Type}{F:α->β->Prop}:∀{l₁:List α} {l₂:List β},Paired F l₁ l₂->∀a∈l₁,∃b∈l₂,F a b
 |_,_,.nil=>by intro a h;cases h
 |_,_,.cons h t=>by
  intro a hm;rcases zq5.mp hm with e | e
  ·subst e;exact zn _ (eD ..) h
  ·obtain ⟨b,hb,hf⟩:=Paired.mem t a e;exact zn b (zq6 _ hb) hf
theorem Paired.imp{α β:Type}{F G:α->β->Prop}:∀{l₁:List α} {l₂:List β},Paired F l₁ l₂->(∀a∈l₁,∀b∈l₂,F a b->G a b)->Paired G l₁ l₂
 |_,_,.nil,_=>.nil
 |_,_,.cons h t,hi=>.cons (hi _ (eD ..) _ (eD ..) h) (Paired.imp t fun a ha b hb=>hi a (zq6 _ ha) b (zq6 _ hb))
theorem Paired.snoc{α β:Type}{F:α->β->Prop}{a:α}{b:β}(hf:F a b):∀{l₁:List α} {l₂:List β},Paired F l₁ l₂->Paired F (l₁++[a]) (l₂++[b])
 |_,_,.nil=>.cons hf .nil
 |_,_,.cons h t=>.cons h (Paired.snoc hf t)
theorem Paired.put{α β:Type}{F:α->β->Prop}{a:α}{b:β}(hf:F a b):∀{l₁:List α} {l₂:List β} (i:Nat),Paired F l₁ l₂->Paired F (l₁.set i a) (l₂.set i b)
 |_,_,_,.nil=>.nil
 |_,_,0,.cons h t=>.cons hf t
 |_,_,i+1,.cons h t=>.cons h (Paired.put hf i t)
theorem Paired.of_get{α β:Type}{F:α->β->Prop}:∀{l₁:List α} {l₂:List β},l₁.length=l₂.length->(∀(i:Nat)a b,l₁[i]?=some a->l₂[i]?=some b->F a b)->Paired F l₁ l₂
 | [],[],_,_=>.nil
 | [],_::_,h,_=>by simp at h
 |_::_,[],h,_=>by simp at h
 |a::l₁,b::l₂,h,f=>.cons (f 0 a b rfl rfl) (Paired.of_get (by simpa using h) fun i x y hx hy=>f (i+1) x y hx hy)
section
variable {K:W.Frag} {te:TE} {ci:List Nat} {σ:L2.St} {acc:Addr} {Q:Hp->Prop} {H1:Hp}
end
section
variable {K:W.Frag} {H:Hp}
end
end FL
namespace L2
open PySem PySem.Spec PyProof.Rows
section
variable {K:W.Frag} {tt:TT} {te:TE} {ci:List Nat} {σ:St} {acc:Addr} {Q:Hp->Prop} {H1:Hp} {a:Addr} {xs:List V}
theorem oF(p:V->Bool)(f:V->V)(hz:xs.length<=sizeLine)(hl:SqL K H1 a xs)(hacc:H1 acc=none)
  (hp:∀x∈xs,∀H Q',Same H1 H->(∀H',Same H H'->Q' (p x) H')->tt (aL [some x] ci σ) H Q') (hf:∀x∈xs,∀H Q',Same H1 H->p x=true->(∀H',Same H H'->Q' (f x) H')->te (aL [some x] ci σ) H Q')
  (q:∀H,Same H1 H->H acc=some (.lst ((xs.filter p).map f))->Q H):ce (Itl K a) (bD 1) tt te 1 ci σ acc Q (upd H1 acc (.lst [])):=by
 refine eF (fun i ys H=>ys=((xs.take i).filter p).map f/\Same H1 H/\H acc=some (.lst ys)) (zAB Jz (Same.upd hacc) ac) (fun i ys H _ h=>h.2.1.seq hl) ?_ ?_
 ·rintro i x ys H os hi ho ⟨rfl,sm,ha⟩;have hm:=zq9 hi;have e:(aL os ci σ).set 1 (some x)=aL [some x] ci σ:=by
   match os,ho with
   | [o],_=>rfl
  show (∃os',os'.length=1/\(aL os ci σ).set 1 (some x)=aL os' ci σ)/\tt ((aL os ci σ).set 1 (some x)) H _;rw [e];refine ⟨zn ([some x]) rfl rfl,hp x hm _ _ sm fun H2 s2=>?_⟩
  cases hb:p x with
  |true=>
   rw [if_pos rfl];refine hf x hm _ _ (sm.trans s2) hb fun H3 s3=>zAI (s3 _ _ (s2 _ _ ha)) (oX hi hz) ?_ (((sm.trans s2).trans s3).updM hacc) ac
   rw [cN hi,if_pos hb]
  |false=>rw [if_neg zq3];refine zAB ?_ (sm.trans s2) (s2 _ _ ha);rw [cN hi,if_neg (by rw [hb];exact zq3),gQ]
 ·rintro ys H ⟨rfl,sm,ha⟩;rw [eE] at ha;exact q H sm ha
theorem eI(p:Nat->Bool)(f:Nat->V)(i:Nat):((List.range (i+1)).filter p).map f=((List.range i).filter p).map f++(if p i=true then [f i] else []):=by
 rw [A8,uL,cy];congr 1
 cases hb:p i<;>simp [hb]
theorem oG{n:Nat}(p:Nat->Bool)(f:Nat->V)(hz:n<=sizeLine)(hacc:H1 acc=none)
  (hp:∀i:Nat,i<n->∀H Q',Same H1 H->(∀H',Same H H'->Q' (p i) H')->tt (aL [some (.int (i:Int))] ci σ) H Q') (hf:∀i:Nat,i<n->∀H Q',Same H1 H->p i=true->(∀H',Same H H'->Q' (f i) H')->te (aL [some (.int (i:Int))] ci σ) H Q')
  (q:∀H,Same H1 H->H acc=some (.lst (((List.range n).filter p).map f))->Q H):ce (Itr 0 n) (bD 1) tt te 1 ci σ acc Q (upd H1 acc (.lst [])):=by
 refine oE (fun i ys H=>ys=((List.range i).filter p).map f/\Same H1 H/\H acc=some (.lst ys)) (zAB Jz (Same.upd hacc) ac) ?_ ?_
 ·rintro i ys H os hi ho ⟨rfl,sm,ha⟩;rw [show (0:Int)+(i:Int)=(i:Int) by omega];have e:(aL os ci σ).set 1 (some (.int (i:Int)))=aL [some (.int (i:Int))] ci σ:=by
   match os,ho with
   | [o],_=>rfl
  show (∃os',os'.length=1/\(aL os ci σ).set 1 (some (.int (i:Int)))=aL os' ci σ)/\tt ((aL os ci σ).set 1 (some (.int (i:Int)))) H _;rw [e];refine ⟨zn ([some (.int (i:Int))]) rfl rfl,hp i hi _ _ sm fun H2 s2=>?_⟩;have hl:(((List.range i).filter p).map f).length<sizeLine:=by rw [zq1];have:=A5 p (List.range i);rw [fc] at this;omega
  cases hb:p i with
  |true=>
   rw [if_pos rfl];refine hf i hi _ _ (sm.trans s2) hb fun H3 s3=>zAI (s3 _ _ (s2 _ _ ha)) hl ?_ (((sm.trans s2).trans s3).updM hacc) ac
   rw [eI,if_pos hb]
  |false=>rw [if_neg zq3];refine zAB ?_ (sm.trans s2) (s2 _ _ ha);rw [eI,if_neg (by rw [hb];exact zq3),gQ]
 ·rintro ys H ⟨rfl,sm,ha⟩;exact q H sm ha
end
end L2
namespace FD
open PySem L2 PyProof.Rows
end FD
namespace L2
open PySem PyProof.Rows
end L2
namespace FG
open PySem L2 PyProof.Rows
variable {kvs:List (Key×V)}
structure IntD(kvs:List (Key×V)):Prop where
 nd:(kvs.map (·.1)).Nodup
 nums:∀kv∈kvs,∃i,kv.2=.int i
theorem IntD.nil:IntD []:=⟨Ay,fun kv h=>by cases h⟩
theorem IntD.put(h:IntD kvs)(k:Key)(i:Int):IntD (bv kvs k (.int i)):=by
 by_cases hk:(kvs.any fun kv=>decide (kv.1=k))=true
 ·have e:bv kvs k (.int i)=kvs.map (fun kv=>if kv.1=k then (kv.1,.int i) else kv):=by unfold bv;rw [if_pos hk]
  rw [e];refine ⟨?_,fun kv hm=>?_⟩
  ·have e2:(kvs.map (fun kv=>if kv.1=k then (kv.1,V.int i) else kv)).map (·.1)=kvs.map (·.1):=by
    rw [jH];refine wM fun kv _=>?_;show (if kv.1=k then (kv.1,V.int i) else kv).1=kv.1
    split<;>rfl
   rw [e2];exact h.nd
  ·obtain ⟨kv',hm',rfl⟩:=zq23.mp hm;show ∃j,(if kv'.1=k then (kv'.1,V.int i) else kv').2=.int j
   split
   ·exact ⟨i,rfl⟩
   ·exact h.nums kv' hm'
 ·have hn:bE kvs k=none:=by have:=cM k kvs;rw [Bool.not_eq_true] at hk;rw [hk] at this;exact zq147.mp (by rw [zq147];cases e:bE kvs k with | none=>rfl | some v=>rw [e] at this;cases this)
  refine ⟨Bd _ h.nd hn,fun kv hm=>?_⟩;rw [pM _ hn] at hm;rcases zq11.mp hm with z | z
  ·exact h.nums kv z
  ·rw [zq2.mp z];exact ⟨i,rfl⟩
theorem IntD.flat(h:IntD kvs):kvs.all (fun kv=>bF kv.2)=true:=by rw [zq36];intro kv hm;obtain ⟨i,e⟩:=h.nums kv hm;rw [e];rfl
theorem IntD.self(h:IntD kvs):vf kvs kvs=true:=vg h.nd h.flat
def jC(kvs:List (Key×V))(n:Str):Option Int:=match bE kvs (.inr n) with
 |some (.int i)=>some i
 |_=>none
theorem iU{k n:Str}{i:Int}:jC (bv kvs (.inr k) (.int i)) n=if n=k then some i else jC kvs n:=by
 unfold jC;rw [qC]
 by_cases h:n=k
 ·subst h;rw [if_pos rfl,if_pos rfl]
 ·rw [if_neg (fun z=>h (Sum.inr.inj z)),if_neg h]
end FG
namespace FS
open PySem L2 FB PyProof.Rows
inductive Stm where
 |deed (d:Deed)
 |ifs (n:Str) (ones others:List Stm)
 |whl (n:Str) (rows:List Stm)
variable {H H':Hp} {f:List Addr}
mutual
inductive StmV (K:W.Frag) (H:Hp):V->Stm->List Addr->Prop where
 |deed {q:Addr} {d:Deed}:d.fine->SqT K H q d.vs->StmV K H (.ref q) (.deed d) []
 |ifs {q a b:Addr} {n:Str} {xs ys:List V} {ones others:List Stm} {f g:List Addr}:SqT K H q [.str "if",.str n,.ref a,.ref b]->H a=some (.lst xs)->H b=some (.lst ys)->StmsV K H xs ones f->StmsV K H ys others g->
   StmV K H (.ref q) (.ifs n ones others) (a::b::(f++g))
 |whl {q a:Addr} {n:Str} {xs:List V} {rows:List Stm} {f:List Addr}:SqT K H q [.str "while",.str n,.ref a]->H a=some (.lst xs)->StmsV K H xs rows f->StmV K H (.ref q) (.whl n rows) (a::f)
inductive StmsV (K:W.Frag) (H:Hp):List V->List Stm->List Addr->Prop where
 |nil:StmsV K H [] [] []
 |cons {x:V} {s:Stm} {xs:List V} {ss:List Stm} {f g:List Addr}:StmV K H x s f->StmsV K H xs ss g->StmsV K H (x::xs) (s::ss) (f++g)
end
def Kept(fp:List Addr)(H H':Hp):Prop:=∀a∈fp,∀o,H a=some o->H' a=some o
theorem Kept.left{g:List Addr}(h:Kept (f++g) H H'):Kept f H H':=fun a ha=>h a (jD _ ha)
theorem Kept.right{g:List Addr}(h:Kept (f++g) H H'):Kept g H H':=fun a ha=>h a (dC _ ha)
theorem Kept.tail{x:Addr}{g:List Addr}(h:Kept (x::g) H H'):Kept g H H':=fun a ha=>h a (zq6 _ ha)
theorem Kept.of{fp:List Addr}(s:Same H H'):Kept fp H H':=fun a _ o e=>s a o e
theorem Kept.upd{fp:List Addr}{p:Addr}{o:HO}(h:p∉fp):Kept fp H (upd H p o):=fun a ha u e=>by rw [ao (fun z=>h (by rw [<- z];exact ha))];exact e
variable {K:W.Frag}
mutual
theorem StmV.keep(t:TSame H H'):∀{x:V} {s:Stm} {f:List Addr},StmV K H x s f->Kept f H H'->StmV K H' x s f
 |_,_,_,.deed hf h,_=>.deed hf (t.seqT h)
 |_,_,_,.ifs (a:=a) (b:=b) h ha hb h1 h2,k=>.ifs (t.seqT h) (k a Jz _ ha) (k b Jz _ hb) (StmsV.keep t h1 k.tail.tail.left) (StmsV.keep t h2 k.tail.tail.right)
 |_,_,_,.whl (a:=a) h ha h1,k=>.whl (t.seqT h) (k a Jz _ ha) (StmsV.keep t h1 k.tail)
theorem StmsV.keep(t:TSame H H'):∀{xs:List V} {ss:List Stm} {f:List Addr},StmsV K H xs ss f->Kept f H H'->StmsV K H' xs ss f
 |_,_,_,.nil,_=>.nil
 |_,_,_,.cons h1 h2,k=>.cons (StmV.keep t h1 k.left) (StmsV.keep t h2 k.right)
end
theorem StmsV.same{xs:List V}{ss:List Stm}(h:StmsV K H xs ss f)(s:Same H H'):StmsV K H' xs ss f:=h.keep s.ts (Kept.of s)
theorem StmV.same{x:V}{s:Stm}(h:StmV K H x s f)(sm:Same H H'):StmV K H' x s f:=h.keep sm.ts (Kept.of sm)
theorem StmsV.length:∀{xs:List V} {ss:List Stm} {f:List Addr},StmsV K H xs ss f->xs.length=ss.length
 |_,_,_,.nil=>rfl
 |_,_,_,.cons _ h=>by rw [cJ,cJ,StmsV.length h]
theorem StmsV.snoc{y:V}{r:Stm}{g:List Addr}(hy:StmV K H y r g):∀{xs:List V} {ss:List Stm} {f:List Addr},StmsV K H xs ss f->StmsV K H (xs++[y]) (ss++[r]) (f++g)
 |_,_,_,.nil=>by have:=StmsV.cons hy StmsV.nil;rw [gQ] at this;exact this
 |_,_,_,.cons h1 h2=>by rw [qI];exact .cons h1 (StmsV.snoc hy h2)
mutual
theorem StmV.tracked:∀{x:V} {s:Stm} {f:List Addr},StmV K H x s f->∀a∈f,∃zs,H a=some (.lst zs)
 |_,_,_,.deed _ _,a,ha=>by cases ha
 |_,_,_,.ifs (f:=f) (g:=g) h ha hb h1 h2,c,hc=>by
  rcases zq5.mp hc with rfl | hc
  ·exact ⟨_,ha⟩
  rcases zq5.mp hc with rfl | hc
  ·exact ⟨_,hb⟩
  rcases zq11.mp hc with hc | hc
  ·exact StmsV.tracked h1 c hc
  ·exact StmsV.tracked h2 c hc
 |_,_,_,.whl h ha h1,c,hc=>by
  rcases zq5.mp hc with rfl | hc
  ·exact ⟨_,ha⟩
  ·exact StmsV.tracked h1 c hc
theorem StmsV.tracked:∀{xs:List V} {ss:List Stm} {f:List Addr},StmsV K H xs ss f->∀a∈f,∃zs,H a=some (.lst zs)
 |_,_,_,.nil,a,ha=>by cases ha
 |_,_,_,.cons h1 h2,a,ha=>by
  rcases zq11.mp ha with ha | ha
  ·exact StmV.tracked h1 a ha
  ·exact StmsV.tracked h2 a ha
end
theorem StmsV.get:∀{xs:List V} {ss:List Stm} {f:List Addr} {i:Nat} {x:V},StmsV K H xs ss f->xs[i]?=some x->∃s g,ss[i]?=some s/\StmV K H x s g/\∀a∈g,a∈f
 |_,_,_,_,_,.nil,e=>by simp at e
 |_,_,_,0,_,.cons h _,e=>by simp at e;subst e;exact zAA _ _ rfl h fun a ha=>jD _ ha
 |_,_,_,i+1,x,.cons _ t,e=>by obtain ⟨s,g,h1,h2,h3⟩:=StmsV.get (i:=i) (x:=x) t (by simpa using e);exact zAA s g (by simpa using h1) h2 fun a ha=>dC _ (h3 a ha)
theorem lX{α:Type}{l₁ l₂:List α}(h1:l₁.Nodup)(h2:l₂.Nodup)(h:∀a∈l₁,a∉l₂):(l₁++l₂).Nodup:=by rw [zq59];exact zAB h1 h2 fun a ha b hb e=>h a ha (by rw [e];exact hb)
end FS
namespace FP
open PySem L2 FB FS FA PyProof.Rows
variable {H:Hp}
inductive Kd where
 |all | iff | whl | els
 deriving DecidableEq
def Kd.str:Kd->Str
 | .all=>"all"
 | .iff=>"if"
 | .whl=>"while"
 | .els=>"else"
structure Ent where
 kind:Kd
 rows:List Stm
 name:Str
 ones:List Stm
def cB(e:Ent):Stm:=match e.kind with
 | .whl=>.whl e.name e.rows
 | .iff=>.ifs e.name e.rows []
 |_=>.ifs e.name e.ones e.rows
def Ent.add(e:Ent)(r:Stm):Ent:={e with rows:=e.rows++[r]}
def lT(r:Stm):List Ent->List Ent
 | []=>[]
 |e::es=>e.add r::es
def fg:List Ent->List Ent
 |e::e2::es=>e2.add (cB e)::es
 |es=>es
theorem bM{e e2:Ent}{es:List Ent}:(fg (e::e2::es)).length=es.length+1:=rfl
def bY:List Ent->List Stm
 | []=>[]
 | [e]=>e.rows
 |e::e2::es=>bY (e2.add (cB e)::es)
termination_by es=>es.length
def kd3(j:Int):Kd:=if j=1\/j=-2 then .whl else .iff
def du(names:List Str)(w:Int)(most:Int)(k:Nat)(c:Int)(st:List Ent×Int):List Ent×Int:=
 if d3 c k % 12<2/\1<st.1.length then
  (match st.1 with
   |e::es=>if d3 c k % 12=0/\e.kind=.iff then ⟨.els,[],e.name,e.rows⟩::es else fg st.1
   | []=>[],st.2)
 else if st.2<most then
  (if d3 c k % 12<5/\st.1.length<9/\¬names=[] then ⟨kd3 (d3 c k % 12-2),[],jz (d3 c k / 12) names,[]⟩::st.1 else lT (.deed (fh (d3 c k / 12) names w)) st.1,st.2+1)
 else st
def cG(names:List Str)(w most:Int):List Int->Nat->List Ent×Int->List Ent×Int
 | [],_,st=>st
 |c::cs,k,st=>cG names w most cs (k+1) (du names w most k c st)
theorem mj{names:List Str}{w most:Int}{c:Int}:∀{cs:List Int} {k:Nat} {st:List Ent×Int},cG names w most (cs++[c]) k st=du names w most (k+cs.length) c (cG names w most cs k st)
 | [],k,st=>rfl
 |d::cs,k,st=>by show cG names w most (cs++[c]) (k+1) _=_;rw [mj,cJ,show k+1+cs.length=k+(cs.length+1) by omega];rfl
def start0:List Ent×Int:=([⟨.all,[],"",[]⟩],0)
def hV(cs:List Int)(names:List Str)(w most:Int):List Stm:=bY (cG names w most cs 0 start0).1
variable {K:W.Frag}
def EntV(K:W.Frag)(H:Hp)(x:V)(e:Ent)(g:List Addr):Prop:=∃(q r o:Addr)(ys zs:List V)(fr fo:List Addr),x=.ref q/\SqT K H q [.str e.kind.str,.ref r,.str e.name,.ref o]/\H r=some (.lst ys)/\StmsV K H ys e.rows fr/\H o=some (.lst zs)/\StmsV K H zs e.ones fo/\g=r::o::(fr++fo)
theorem EntV.keep{H':Hp}{x:V}{e:Ent}{g:List Addr}(t:TSame H H')(h:EntV K H x e g)(k:Kept g H H'):EntV K H' x e g:=by obtain ⟨q,r,o,ys,zs,fr,fo,ex,hq,hr,h1,ho,h2,rfl⟩:=h;exact zBC q r o ys zs fr fo ex (t.seqT hq) (k r Jz _ hr) (h1.keep t k.tail.tail.left) (k o Jz _ ho) (h2.keep t k.tail.tail.right) rfl
inductive StkV (K:W.Frag) (H:Hp):List V->List Ent->List Addr->Prop where
 |nil:StkV K H [] [] []
 |snoc {xs:List V} {es:List Ent} {f g:List Addr} {x:V} {e:Ent}:StkV K H xs es f->EntV K H x e g->StkV K H (xs++[x]) (e::es) (g++f)
theorem StkV.keep{H':Hp}(t:TSame H H'):∀{xs:List V} {es:List Ent} {f:List Addr},StkV K H xs es f->Kept f H H'->StkV K H' xs es f
 |_,_,_,.nil,_=>.nil
 |_,_,_,.snoc h1 h2,k=>.snoc (StkV.keep t h1 k.right) (h2.keep t k.left)
theorem StkV.length:∀{xs:List V} {es:List Ent} {f:List Addr},StkV K H xs es f->xs.length=es.length
 |_,_,_,.nil=>rfl
 |_,_,_,.snoc h _=>by rw [zq4,cJ,StkV.length h];rfl
theorem EntV.tracked{x:V}{e:Ent}{g:List Addr}(h:EntV K H x e g):∀a∈g,∃zs,H a=some (.lst zs):=by
 obtain ⟨q,r,o,ys,zs,fr,fo,ex,hq,hr,h1,ho,h2,rfl⟩:=h;intro a ha;rcases zq5.mp ha with rfl | ha
 ·exact ⟨_,hr⟩
 rcases zq5.mp ha with rfl | ha
 ·exact ⟨_,ho⟩
 rcases zq11.mp ha with ha | ha
 ·exact h1.tracked a ha
 ·exact h2.tracked a ha
theorem StkV.tracked:∀{xs:List V} {es:List Ent} {f:List Addr},StkV K H xs es f->∀a∈f,∃zs,H a=some (.lst zs)
 |_,_,_,.nil,a,ha=>by cases ha
 |_,_,_,.snoc h1 h2,a,ha=>by
  rcases zq11.mp ha with ha | ha
  ·exact h2.tracked a ha
  ·exact StkV.tracked h1 a ha
theorem StkV.inv{xs:List V}{e:Ent}{es:List Ent}{f:List Addr}(h:StkV K H xs (e::es) f):∃xs' x f' g,xs=xs'++[x]/\f=g++f'/\StkV K H xs' es f'/\EntV K H x e g:=by
 cases h with
 |snoc h1 h2=>exact zAU _ _ _ _ rfl rfl h1 h2
theorem fN{α:Type}{xs:List α}{x:α}:atI (xs++[x]) (-1)=some x:=by
 unfold atI ixN;rw [if_neg Jx,if_pos (by simp;omega)];have e:(-1+((xs++[x]).length:Int)).toNat=xs.length:=by rw [zq4,c9];omega
 rw [e];simp
structure dD(K:W.Frag)(H0 H:Hp)(S:Addr)(es:List Ent)(B:Nat):Prop where
 same:Same H0 H
 at_:∃xs f,H S=some (.lst xs)/\StkV K H xs es f/\(S::f).Nodup/\∀a∈S::f,H0 a=none
 few:∀e∈es,e.rows.length<=B
theorem tQ{H0 H:Hp}{S q r o:Addr}{xs zs:List V}{es:List Ent}{f fo:List Addr}{kind:Kd}{name:Str}{ones:List Stm}{B:Nat}(sm:Same H0 H)(hS:H S=some (.lst xs))(hK:StkV K H xs es f)(hr:H r=some (.lst []))(ho:H o=some (.lst zs))(hz:StmsV K H zs ones fo)
  (hq:SqT K H q [.str kind.str,.ref r,.str name,.ref o]) (nd:(S::((r::o::fo)++f)).Nodup) (fr:∀a∈S::((r::o::fo)++f),H0 a=none) (few:∀e∈es,e.rows.length<=B) :
  dD K H0 (upd H S (.lst (xs++[.ref q]))) S (⟨kind,[],name,ones⟩::es) B:=by
 have nS:=(zq25.mp nd).1;have tt:TSame H (upd H S (.lst (xs++[V.ref q]))):=TSame.updL hS;refine ⟨sm.updM (fr S Jz),zAE _ ((r::o::([]++fo))++f) ac (.snoc (hK.keep tt (Kept.upd fun z=>nS (by simp [z]))) (zBC q r o ([]) zs ([]) fo rfl (tt.seqT hq) ?_ .nil ?_ (hz.keep tt (Kept.upd fun z=>nS (by simp [z]))) rfl)) nd fr,fun e he=>?_⟩
 ·rw [ao (fun z=>nS (by rw [<- z];simp))];exact hr
 ·rw [ao (fun z=>nS (by rw [<- z];simp))];exact ho
 ·rcases zq5.mp he with z | z
  ·subst z;exact cm _
  ·exact few e z
theorem E5{H:Hp}{S:Addr}{xs:List V}{c:Prop}[Decidable c]{k:Int}{A B:Prop}(hx:SqL K H S xs)(hA:c->k<xs.length->A)(hB:¬(c/\k<xs.length)->B):
  if decide c=true then ∃ys,(SqL K H S ys\/SqT K H S ys)/\if decide (k<(ys.length:Int))=true then A else B else B:=by
 by_cases h:c
 ·rw [decide_eq_true h,if_pos rfl];refine zn xs (.inl hx) ?_
  by_cases h2:k<(xs.length:Int)
  ·rw [decide_eq_true h2,if_pos rfl];exact hA h h2
  ·rw [decide_eq_false h2,if_neg zq3];exact hB fun z=>h2 z.2
 ·rw [decide_eq_false h,if_neg zq3];exact hB fun z=>h z.1
theorem IL{H:Hp}{S T:Addr}{xs ts:List V}{c:Prop}[Decidable c]{k l:Int}{A B:Prop}(hx:SqL K H S xs)(ht:SqL K H T ts)(hA:c->(xs.length:Int)<k->l<ts.length->A)(hB:¬(c/\(xs.length:Int)<k/\l<ts.length)->B):
  if decide c=true then ∃ys,(SqL K H S ys\/SqT K H S ys)/\if decide ((ys.length:Int)<k)=true then ∃zs,(SqL K H T zs\/SqT K H T zs)/\if decide (l<(zs.length:Int))=true then A else B else B else B:=by
 by_cases h:c
 ·rw [decide_eq_true h,if_pos rfl];refine zn xs (.inl hx) ?_
  by_cases h2:(xs.length:Int)<k
  ·rw [decide_eq_true h2,if_pos rfl];refine zn ts (.inl ht) ?_
   by_cases h3:l<(ts.length:Int)
   ·rw [decide_eq_true h3,if_pos rfl];exact hA h h2 h3
   ·rw [decide_eq_false h3,if_neg zq3];exact hB fun z=>h3 z.2.2
  ·rw [decide_eq_false h2,if_neg zq3];exact hB fun z=>h2 z.2.1
 ·rw [decide_eq_false h,if_neg zq3];exact hB fun z=>h z.1
theorem kd_if{k:Kd}:(k.str="if")↔k=.iff:=by cases k<;>decide +kernel
theorem wY{H:Hp}{S q:Addr}{xs:List V}{c:Prop}[Decidable c]{k:Kd}{r o:Addr}{n:Str}{A B:Hp->Prop}(hx:SqL K H S (xs++[.ref q]))(hq:SqT K H q [.str k.str,.ref r,.str n,.ref o])(hA:c->k=.iff->A H)(hB:¬(c/\k=.iff)->B H):
  if decide c=true then ∃xs v,SqL K H S xs/\atI xs (-1)=some v/\BI K v (V.int 0) H fun x H1=>rEq x (V.str "if") H1 fun x H'=>∃k,x=V.bl k/\if k=true then A H' else B H' else B H:=by
 by_cases h:c
 ·rw [decide_eq_true h,if_pos rfl];refine zAA _ _ hx fN ?_;rw [CF];refine zAA _ _ hq rfl ?_;show wg (.str k.str) (.str "if")=true/\∃k_1,V.bl (decide (V.str k.str=V.str "if"))=V.bl k_1/\_;refine ⟨rfl,zn _ rfl ?_⟩
  by_cases hk:k=.iff
  ·rw [decide_eq_true (congrArg V.str (kd_if.mpr hk)),if_pos rfl];exact hA h hk
  ·rw [decide_eq_false (fun z=>hk (kd_if.mp (V.str.inj z))),if_neg zq3];exact hB fun z=>hk z.2
 ·rw [decide_eq_false h,if_neg zq3];exact hB fun z=>h z.1
theorem Eo{j:Int}(h0:-2<=j)(h3:j<3):atI [V.str "if",V.str "while",V.str "if"] j=some (.str (kd3 j).str):=by
 have h:j=-2\/j=-1\/j=0\/j=1\/j=2:=by omega
 rcases h with rfl | rfl | rfl | rfl | rfl<;>rfl
end FP
namespace FS
open PySem L2 FB PyProof.Rows
variable {a b:List Stm}
theorem nj{f k:Str}(h:f∈opsL)(hk:opsL.contains k=false):¬f=k:=by rintro rfl;rw [List.contains_eq_mem,decide_eq_false_iff_not] at hk;exact hk h
theorem jk{K:W.Frag}{H:Hp}{q:Addr}{d:Deed}{k:Str}{Z:V->Hp->Prop}(hf:d.fine)(hq:SqT K H q d.vs)(h1:opsL.contains k=false)(h2:¬("tell":Str)=k) (h3:¬("copy":Str)=k) (h:Z (.bl false) H):∃xs v,SqT K H q xs/\atI xs 0=some v/\rEq v (.str k) H Z:=by
 cases d with
 |tell a=>exact zAE _ _ hq rfl rfl (by rw [decide_eq_false (fun z=>h2 (V.str.inj z))];exact h)
 |copy n a=>exact zAE _ _ hq rfl rfl (by rw [decide_eq_false (fun z=>h3 (V.str.inj z))];exact h)
 |op f n a b=>exact zAE _ _ hq rfl rfl (by rw [decide_eq_false (fun z=>nj hf h1 (V.str.inj z))];exact h)
mutual
def Stm.deep:Stm->Nat
 | .deed _=>0
 | .ifs _ a b=>max (bJ a) (bJ b)+1
 | .whl _ a=>bJ a+1
def bJ:List Stm->Nat
 | []=>0
 |s::ss=>max s.deep (bJ ss)
end
mutual
def Stm.many:Stm->Nat
 | .deed _=>1
 | .ifs _ a b=>aY a+aY b+1
 | .whl _ a=>aY a+1
def aY:List Stm->Nat
 | []=>0
 |s::ss=>s.many+aY ss
end
def Opd.good(ns:List Str)(w:Int):Opd->Prop
 | .box n=>n∈ns
 | .word i=>0<=i/\i<2 ^ w.toNat
def Deed.good(ns:List Str)(w:Int):Deed->Prop
 | .tell a=>Opd.good ns w a
 | .copy d a=>d∈ns/\Opd.good ns w a
 | .op f d a b=>f∈opsL/\d∈ns/\Opd.good ns w a/\Opd.good ns w b
mutual
def Stm.good(ns:List Str)(w:Int):Stm->Prop
 | .deed d=>Deed.good ns w d
 | .ifs n a b=>n∈ns/\bK ns w a/\bK ns w b
 | .whl n a=>n∈ns/\bK ns w a
def bK(ns:List Str)(w:Int):List Stm->Prop
 | []=>True
 |s::ss=>s.good ns w/\bK ns w ss
end
theorem xO(s:Stm):1<=s.many:=by cases s<;>simp [Stm.many]
theorem cC(ss:List Stm):ss.length<=aY ss:=by
 induction ss with
 |nil=>simp [aY]
 |cons s ss ih=>rw [aY,cJ];have:=xO s;omega
theorem iC{s:Stm}{ss:List Stm}(h:s∈ss):s.many<=aY ss:=by
 induction ss with
 |nil=>cases h
 |cons x xs ih=>
  rw [aY];rcases zq5.mp h with z | z
  ·subst z;omega
  ·have:=ih z;omega
theorem lR{s:Stm}{ss:List Stm}(h:s∈ss):s.deep<=bJ ss:=by
 induction ss with
 |nil=>cases h
 |cons x xs ih=>
  rw [bJ];rcases zq5.mp h with z | z
  ·subst z;omega
  ·have:=ih z;omega
theorem mM:bJ (a++b)=max (bJ a) (bJ b):=by
 induction a with
 |nil=>simp [bJ]
 |cons s ss ih=>rw [wJ,bJ,bJ,ih,Nat.max_assoc]
theorem fu:aY (a++b)=aY a+aY b:=by
 induction a with
 |nil=>simp [aY]
 |cons s ss ih=>rw [wJ,aY,aY,ih];omega
theorem goodL_append{ns:List Str}{w:Int}:bK ns w (a++b)↔bK ns w a/\bK ns w b:=by
 induction a with
 |nil=>simp [bK]
 |cons s ss ih=>rw [wJ,bK,bK,ih];exact and_assoc.symm
end FS
namespace FP
open PySem L2 FB FS FA PyProof.Rows
theorem oN{m:Int}{ns:List Str}{w:Int}:Deed.good ns w (fh m ns w):=by
 have og:∀k,Opd.good ns w (pH k ns w):=fun k=>by
  unfold pH
  split
  ·next h=>exact iI h.2
  ·have hp:(0:Int)<1 * 2 ^ w.toNat:=by rw [nR];exact qH Jx
   refine ⟨eO _ Jy,?_⟩;have:=gc (k / 3) hp;rw [nR] at this ⊢;exact this
 unfold fh
 split
 ·exact og _
 ·next h=>
  have hne:¬ns=[]:=fun z=>h (.inr z)
  split
  ·exact ⟨iI hne,og _⟩
  ·have hf:=jl (m:=m) (ns:=ns) (w:=w);unfold fh at hf;rw [if_neg h,if_neg (by assumption)] at hf;exact zAG hf (iI hne) (og _) (og _)
structure AH(ns:List Str)(w:Int)(h:Nat)(e:Ent):Prop where
 d1:bJ e.rows+h<=8
 d2:bJ e.ones+h<=8
 g1:bK ns w e.rows
 g2:bK ns w e.ones
 nm:h≠0->e.name∈ns
def EsG(ns:List Str)(w:Int):List Ent->Prop
 | []=>True
 |e::es=>AH ns w es.length e/\EsG ns w es
def kW:List Ent->Nat
 | []=>0
 |e::es=>aY e.rows+aY e.ones+kW es
def iw(es:List Ent):Nat:=kW es+(es.length-1)
theorem oH{ns:List Str}{w:Int}{h:Nat}{e:Ent}(g:AH ns w (h+1) e):(cB e).good ns w/\(cB e).deep+h<=8/\(cB e).many<=aY e.rows+aY e.ones+1:=by
 have hn:=g.nm Jy;have h1:=g.d1;have h2:=g.d2;unfold cB
 cases e.kind
 ·exact zAB (zAB hn g.g2 g.g1) (by simp only [Stm.deep];omega) (by simp only [Stm.many];omega)
 ·exact zAB (zAB hn g.g1 trivial) (by simp only [Stm.deep,bJ];omega) (by simp only [Stm.many,aY];omega)
 ·exact zAB ⟨hn,g.g1⟩ (by simp only [Stm.deep];omega) (by simp only [Stm.many];omega)
 ·exact zAB (zAB hn g.g2 g.g1) (by simp only [Stm.deep];omega) (by simp only [Stm.many];omega)
theorem nZ{ns:List Str}{w:Int}{h:Nat}{e:Ent}{s:Stm}(g:AH ns w h e)(hg:s.good ns w)(hd:s.deep+h<=8):AH ns w h (e.add s):=by have h1:=g.d1;refine ⟨?_,g.d2,goodL_append.mpr (zAB g.g1 hg trivial),g.g2,g.nm⟩;show bJ (e.rows++[s])+h<=8;rw [mM,bJ,bJ];omega
theorem iu{ns:List Str}{w:Int}{e e2:Ent}{es:List Ent}(g:EsG ns w (e::e2::es)):EsG ns w (fg (e::e2::es))/\iw (fg (e::e2::es))<=iw (e::e2::es):=by obtain ⟨g1,g2,g3⟩:=g;obtain ⟨c1,c2,c3⟩:=oH (h:=es.length) g1;refine ⟨⟨nZ g2 c1 c2,g3⟩,?_⟩;show kW (e2.add (cB e)::es)+_<=kW (e::e2::es)+_;simp only [kW,Ent.add,fu,aY,fg,List.length_cons];omega
theorem gW{ns:List Str}{w:Int}:∀{es:List Ent},EsG ns w es->bK ns w (bY es)/\bJ (bY es)<=8/\aY (bY es)<=iw es
 | [],_=>by rw [bY];exact zAB trivial (by simp [bJ]) (by simp [aY])
 | [e],g=>by
  rw [bY];have:=g.1.d1;exact zAB g.1.g1 (by simp at this;omega) (by simp only [iw,kW];omega)
 |e::e2::es,g=>by rw [bY];obtain ⟨h1,h2⟩:=iu g;obtain ⟨h3,h4,h5⟩:=gW (es:=e2.add (cB e)::es) h1;exact zAB h3 h4 (cL h5 h2)
termination_by es=>es.length
theorem rX{ns:List Str}{w most:Int}{k:Nat}{c:Int}{st:List Ent×Int}(g:EsG ns w st.1)(l1:1<=st.1.length)(l9:st.1.length<=9)(hc:(iw st.1:Int)<=st.2)(hm:st.2<=most):
  EsG ns w (du ns w most k c st).1/\1<=(du ns w most k c st).1.length/\(du ns w most k c st).1.length<=9/\(iw (du ns w most k c st).1:Int)<=(du ns w most k c st).2/\(du ns w most k c st).2<=most:=by
 obtain ⟨es,many⟩:=st;dsimp only at g l1 l9 hc hm;unfold du;dsimp only
 split
 ·next h=>
  match es,h.2,g,l9,hc with
  |e::e2::es',_,g,l9,hc=>
   dsimp only
   split
   ·next hk=>
    refine zAI ⟨⟨?_,g.1.d1,trivial,g.1.g1,g.1.nm⟩,g.2⟩ Jz (by simpa using l9) ?_ hm
    ·have:=g.1.d1;simp only [bJ];omega
    ·simp only [iw,kW,aY,List.length_cons] at hc ⊢;omega
   ·obtain ⟨h1,h2⟩:=iu g;refine zAI h1 (by rw [bM];omega) (by rw [bM];simp at l9;omega) Jy hm
 ·split
  ·next h2=>
   dsimp only
   split
   ·next h3=>refine zAI ⟨⟨by simp only [bJ];omega,by simp only [bJ];omega,trivial,trivial,fun _=>iI h3.2.2⟩,g⟩ Jz (by simp;omega) ?_ Jy;simp only [iw,kW,aY,List.length_cons] at hc ⊢;omega
   ·match es,l1,g,l9,hc with
    |e::es',_,g,l9,hc=>refine zAI ⟨nZ g.1 oN (by simp only [Stm.deep];simp at l9;omega),g.2⟩ (by simp [lT]) (by simpa [lT] using l9) ?_ Jy;simp only [iw,kW,lT,Ent.add,fu,aY,Stm.many,List.length_cons] at hc ⊢;omega
  ·exact zAI g l1 l9 hc hm
theorem mi{ns:List Str}{w most:Int}:∀{cs:List Int} {k:Nat} {st:List Ent×Int},EsG ns w st.1->1<=st.1.length->st.1.length<=9->(iw st.1:Int)<=st.2->st.2<=most->
  EsG ns w (cG ns w most cs k st).1/\(iw (cG ns w most cs k st).1:Int)<=most
 | [],_,_,g,_,_,hc,hm=>⟨g,by show (iw _:Int)<=_;exact Int.le_trans hc hm⟩
 |c::cs,k,st,g,l1,l9,hc,hm=>by obtain ⟨a1,a2,a3,a4,a5⟩:=rX (k:=k) (c:=c) g l1 l9 hc hm;show EsG ns w (cG ns w most cs (k+1) (du ns w most k c st)).1/\(iw (cG ns w most cs (k+1) (du ns w most k c st)).1:Int)<=most;exact mi a1 a2 a3 a4 a5
theorem rL{cs:List Int}{ns:List Str}{w most:Int}(h:0<=most):bK ns w (hV cs ns w most)/\bJ (hV cs ns w most)<=8/\(aY (hV cs ns w most):Int)<=most:=by
 have z:EsG ns w start0.1:=⟨⟨by simp [start0,bJ],by simp [start0,bJ],trivial,trivial,fun z=>absurd rfl z⟩,trivial⟩
 obtain ⟨g,hc⟩:=mi (cs:=cs) (k:=0) (most:=most) z (by simp [start0]) (by simp [start0]) (by simp [start0,iw,kW,aY]) (by simpa [start0] using h);obtain ⟨h1,h2,h3⟩:=gW g;exact zAB h1 h2 (by unfold hV;omega)
end FP
namespace L2
open PySem PySem.Spec PyProof.Rows
variable {H:Hp} {o:HO} {p:Addr}
def SameX(p:Addr)(H H':Hp):Prop:=∀c o,H c=some o->c≠p->H' c=some o
theorem SameX.refl:SameX p H H:=fun _ _ e _=>e
theorem SameX.trans{H1 H2:Hp}(a:SameX p H H1)(b:SameX p H1 H2):SameX p H H2:=fun c o e n=>b c o (a c o e n) n
theorem SameX.of{H':Hp}(s:Same H H'):SameX p H H':=fun c o e _=>s c o e
theorem SameX.upd:SameX p H (L2.upd H p o):=fun c u e n=>by rw [ao n];exact e
theorem SameX.free{c:Addr}{H':Hp}(s:SameX p H H')(hp:H' p=some o)(h:H' c=none):H c=none:=by
 cases e:H c with
 |none=>rfl
 |some u=>
  have n:c≠p:=fun z=>by subst z;rw [hp] at h;cases h
  rw [s c u e n] at h;cases h
theorem TSame.updI{C dx:Addr}{fs:List (Str×V)}(h:H p=some (.ins C dx fs)):TSame H (L2.upd H p o):=
 ⟨fun b xs e=>by rw [ao (fun z=>by rw [z,h] at e;cases e)];exact e,fun b u v e=>by rw [ao (fun z=>by rw [z,h] at e;cases e)];exact e⟩
end L2
namespace FS
open PySem L2 FB PyProof.Rows
def ET(wd:Int)(a b r:Addr):List (Str×V):=[("width",.int wd),("ins",.ref a),("boxes",.ref b),("rows",.ref r)]
structure ProgAt(K:W.Frag)(C:Addr)(H:Hp)(p:Addr)(wd:Int)(ins oth:List Str)(ss:List Stm)(a b r:Addr)(xs:List V)(f:List Addr):Prop where
 ob:∃dx,H p=some (.ins C dx (ET wd a b r))
 ia:H a=some (.lst (ins.map V.str))
 bx:H b=some (.lst ((ins++oth).map V.str))
 rs:H r=some (.lst xs)
 st:StmsV K H xs ss f
theorem ProgAt.same{K:W.Frag}{C:Addr}{H H':Hp}{p:Addr}{wd:Int}{ins oth:List Str}{ss:List Stm}{a b r:Addr}{xs:List V}{f:List Addr}(h:ProgAt K C H p wd ins oth ss a b r xs f)(s:Same H H'):ProgAt K C H' p wd ins oth ss a b r xs f:=
 ⟨let ⟨dx,e⟩:=h.ob;⟨dx,s _ _ e⟩,s _ _ h.ia,s _ _ h.bx,s _ _ h.rs,h.st.same s⟩
theorem bN{f:Str}{v:V}:∀{fs:List (Str×V)},(fs.map (·.1)).contains f=false->dc f v fs=fs++[(f,v)]
 | [],_=>rfl
 | (g,x)::r,h=>by
  rw [d9,List.contains_cons,Bool.or_eq_false_iff] at h;have n:¬g=f:=fun z=>by subst z;simp at h
  rw [show dc f v ((g,x)::r)=(if g=f then (g,v)::r else (g,x)::dc f v r) from rfl,if_neg n,bN h.2];rfl
end FS
namespace K01M
variable {a b:Nat}
def bsN(f:Nat->Nat->Nat)(a b:Nat):Nat->Nat
 |0=>0
 |i+1=>bsN f a b i+f (a / 2 ^ i % 2) (b / 2 ^ i % 2) * 2 ^ i
theorem pB(x w:Nat):x % 2 ^ (w+1)=x % 2 ^ w+x / 2 ^ w % 2 * 2 ^ w:=by rw [Ab,Nat.mod_mul,Nat.mul_comm]
theorem tb(x w:Nat):x / 2 ^ w % 2=(x.testBit w).toNat:=by
 rw [Nat.testBit_eq_decide_div_mod_eq];have h:x / 2 ^ w % 2=0\/x / 2 ^ w % 2=1:=by omega
 rcases h with h | h<;>simp [h]
theorem xh(a b:Nat):∀w,bsN (· * ·) a b w=(a &&& b) % 2 ^ w
 |0=>by simp [bsN,Nat.mod_one]
 |w+1=>by
  rw [bsN,xh a b w,pB,tb,tb,tb,Nat.testBit_and]
  cases a.testBit w<;>cases b.testBit w<;>simp
theorem Cr(a b:Nat):∀w,bsN (fun p q=>max p q) a b w=(a ||| b) % 2 ^ w
 |0=>by simp [bsN,Nat.mod_one]
 |w+1=>by
  rw [bsN,Cr a b w,pB,tb,tb,tb,Nat.testBit_or]
  cases a.testBit w<;>cases b.testBit w<;>simp
theorem xi(a b:Nat):∀w,bsN (fun p q=>(p+q) % 2) a b w+bsN (· * ·) a b w=bsN (fun p q=>max p q) a b w
 |0=>rfl
 |w+1=>by
  have ih:=xi a b w;have ea:a / 2 ^ w % 2=0\/a / 2 ^ w % 2=1:=by omega
  have eb:b / 2 ^ w % 2=0\/b / 2 ^ w % 2=1:=by omega
  rw [bsN,bsN,bsN];rcases ea with e | e<;>rcases eb with e' | e'<;>simp only [e,e']<;>simp<;>omega
def bsI(f:Int->Int->Int)(x y:Int):Nat->Int
 |0=>0
 |i+1=>bsI f x y i+f (x / 2 ^ i % 2) (y / 2 ^ i % 2) * 2 ^ i
theorem gh{f:Int->Int->Int}{g:Nat->Nat->Nat}(h:∀p q:Nat,f p q=(g p q:Nat))(a b:Nat):∀w,bsI f a b w=((bsN g a b w:Nat):Int)
 |0=>rfl
 |w+1=>by
  rw [bsI,bsN,gh h a b w];have e:∀x:Nat,((x:Int) / 2 ^ w % 2)=((x / 2 ^ w % 2:Nat):Int):=fun x=>by simp
  rw [e,e,h];simp
theorem wZ{w:Nat}(ha:a<2 ^ w):bsI (· * ·) a b w=((a &&& b:Nat):Int):=by rw [gh (g:=(· * ·)) (fun p q=>Jz) a b w,xh,Nat.mod_eq_of_lt (Az Ac ha)]
theorem CA{w:Nat}(ha:a<2 ^ w)(hb:b<2 ^ w):bsI (fun p q=>max p q) a b w=((a ||| b:Nat):Int):=by rw [gh (g:=fun p q=>max p q) (fun p q=>Jy) a b w,Cr,Nat.mod_eq_of_lt (Ae ha hb)]
theorem GF{w:Nat}(ha:a<2 ^ w)(hb:b<2 ^ w):bsI (fun p q=>(p+q) % 2) a b w=((a ||| b:Nat):Int)-((a &&& b:Nat):Int):=by have e1:bsI (fun p q=>(p+q) % 2) a b w=_:=gh (g:=fun p q=>(p+q) % 2) (fun p q=>Jy) a b w;have e2:bsI (fun p q=>max p q) a b w=_:=gh (g:=fun p q=>max p q) (fun p q=>Jy) a b w;have e3:bsI (· * ·) a b w=_:=gh (g:=(· * ·)) (fun p q=>Jz) a b w;have h:=xi a b w;rw [<- CA ha hb,<- wZ (b:=b) ha,e1,e2,e3];omega
end K01M
namespace FO
open PySem L2 K01M FB PyProof.Rows
abbrev ops:List Str:=FB.opsL
def jB(op:Str)(x y w:Int):Int:=
 if op="plus" then (x+y) % 2 ^ w.toNat else if op="less" then (x-y) % 2 ^ w.toNat else if op="and" then Builtin.bitAnd x y else if op="or" then Builtin.bitOr x y
 else if op="xor" then Builtin.bitXor x y else if op="below" then (if x<y then 1 else 0) else if x=y then 1 else 0
def fof(op:Str)(p q:Int):Int:=if op="and" then p * q else if op="or" then (if q>p then q else p) else (p+q) % 2
def lop(op:Str)(x y w:Int):Int:=
 if op="plus" then (x+y) % (1 * 2 ^ w.toNat) else if op="less" then (x-y) % (1 * 2 ^ w.toNat) else if op="below" then (if decide (x<y)=true then 1 else 0)
 else if op="same" then (if decide (x=y)=true then 1 else 0) else bsI (fof op) x y w.toNat
theorem Ex(p q:Int):(if q>p then q else p)=max p q:=by split<;>omega
theorem AN(a b:Nat):Builtin.bitAnd (a:Int) (b:Int)=((a &&& b:Nat):Int):=by unfold Builtin.bitAnd;rw [decide_eq_true (by omega:(0:Int)<=a),decide_eq_true (by omega:(0:Int)<=b)];rfl
theorem bOr(a b:Nat):Builtin.bitOr (a:Int) (b:Int)=((a ||| b:Nat):Int):=by
 unfold Builtin.bitOr Builtin.bitAnd;have e1:∀z:Nat,Builtin.bitNot (z:Int)=-(z:Int)-1:=fun z=>by unfold Builtin.bitNot;omega
 rw [e1,e1,decide_eq_false (by omega:¬(0:Int)<=-(a:Int)-1),decide_eq_false (by omega:¬(0:Int)<=-(b:Int)-1)];show Builtin.bitNot (Builtin.bitNot (((Builtin.bitNot (-(a:Int)-1)).toNat ||| (Builtin.bitNot (-(b:Int)-1)).toNat:Nat):Int))=_;have e2:∀z:Nat,(Builtin.bitNot (-(z:Int)-1)).toNat=z:=fun z=>by unfold Builtin.bitNot;omega
 rw [e2,e2,e1];unfold Builtin.bitNot;omega
theorem gf{f g:Int->Int->Int}(h:∀p q,f p q=g p q)(x y:Int):∀n,bsI f x y n=bsI g x y n
 |0=>rfl
 |n+1=>by rw [bsI,bsI,gf h x y n,h]
theorem GN{op:Str}{x y w:Int}(ho:op∈ops)(x0:0<=x)(x1:x<2 ^ w.toNat)(y0:0<=y)(y1:y<2 ^ w.toNat):jB op x y w=lop op x y w:=by
 obtain ⟨a,rfl⟩:=lC x0;obtain ⟨b,rfl⟩:=lC y0;have ha:a<2 ^ w.toNat:=by
  have:((a:Nat):Int)<((2 ^ w.toNat:Nat):Int):=by simpa using x1
  omega
 have hb:b<2 ^ w.toNat:=by
  have:((b:Nat):Int)<((2 ^ w.toNat:Nat):Int):=by simpa using y1
  omega
 unfold jB lop;rw [nR];have q:op="plus"\/op="less"\/op="and"\/op="or"\/op="xor"\/op="below"\/op="same":=by simpa [FB.opsL] using ho
 have n1:¬("less":Str)="plus":=by decide +kernel
 have n2:¬("and":Str)="plus":=by decide +kernel
 have n3:¬("and":Str)="less":=by decide +kernel
 have n4:¬("and":Str)="below":=by decide +kernel
 have n5:¬("and":Str)="same":=by decide +kernel
 have n6:¬("or":Str)="plus":=by decide +kernel
 have n7:¬("or":Str)="less":=by decide +kernel
 have n8:¬("or":Str)="below":=by decide +kernel
 have n9:¬("or":Str)="same":=by decide +kernel
 have n10:¬("or":Str)="and":=by decide +kernel
 have n11:¬("xor":Str)="plus":=by decide +kernel
 have n12:¬("xor":Str)="less":=by decide +kernel
 have n13:¬("xor":Str)="below":=by decide +kernel
 have n14:¬("xor":Str)="same":=by decide +kernel
 have n15:¬("xor":Str)="and":=by decide +kernel
 have n16:¬("xor":Str)="or":=by decide +kernel
 have m1:¬("below":Str)="plus":=by decide +kernel
 have m2:¬("below":Str)="less":=by decide +kernel
 have m3:¬("below":Str)="and":=by decide +kernel
 have m4:¬("below":Str)="or":=by decide +kernel
 have m5:¬("below":Str)="xor":=by decide +kernel
 have m6:¬("same":Str)="plus":=by decide +kernel
 have m7:¬("same":Str)="less":=by decide +kernel
 have m8:¬("same":Str)="and":=by decide +kernel
 have m9:¬("same":Str)="or":=by decide +kernel
 have m10:¬("same":Str)="xor":=by decide +kernel
 have m11:¬("same":Str)="below":=by decide +kernel
 rcases q with rfl | rfl | rfl | rfl | rfl | rfl | rfl
 ·rw [if_pos rfl,if_pos rfl]
 ·rw [if_neg n1,if_pos rfl,if_neg n1,if_pos rfl]
 ·rw [if_neg n2,if_neg n3,if_pos rfl,if_neg n2,if_neg n3,if_neg n4,if_neg n5,AN,<- wZ (b:=b) ha];exact gf (fun p q=>by unfold fof;rw [if_pos rfl]) _ _ _
 ·rw [if_neg n6,if_neg n7,if_neg n10,if_pos rfl,if_neg n6,if_neg n7,if_neg n8,if_neg n9,bOr,<- CA ha hb];exact gf (fun p q=>by unfold fof;rw [if_neg n10,if_pos rfl];exact (Ex p q).symm) _ _ _
 ·rw [if_neg n11,if_neg n12,if_neg n15,if_neg n16,if_pos rfl,if_neg n11,if_neg n12,if_neg n13,if_neg n14];unfold Builtin.bitXor;rw [AN,bOr,<- GF ha hb];exact gf (fun p q=>by unfold fof;rw [if_neg n15,if_neg n16]) _ _ _
 ·rw [if_neg m1,if_neg m2,if_neg m3,if_neg m4,if_neg m5,if_pos rfl,if_neg m1,if_neg m2,if_pos rfl];simp
 ·rw [if_neg m6,if_neg m7,if_neg m8,if_neg m9,if_neg m10,if_neg m11,if_neg m6,if_neg m7,if_neg m11,if_pos rfl];simp
theorem C1{op:Str}{x y w:Int}(ho:op∈ops)(x0:0<=x)(x1:x<2 ^ w.toNat)(y0:0<=y)(y1:y<2 ^ w.toNat)(hw:1<=w):0<=jB op x y w/\jB op x y w<2 ^ w.toNat:=by
 obtain ⟨a,rfl⟩:=lC x0;obtain ⟨b,rfl⟩:=lC y0;have ca:((2 ^ w.toNat:Nat):Int)=2 ^ w.toNat:=by simp
 have ha:a<2 ^ w.toNat:=by rw [<- ca] at x1;omega
 have hb:b<2 ^ w.toNat:=by rw [<- ca] at y1;omega
 have hp:(0:Int)<2 ^ w.toNat:=qH Jx;have h2:(2:Int)<=2 ^ w.toNat:=by have:2 ^ 1<=2 ^ w.toNat:=Af Jx Jy;rw [<- ca];omega
 unfold jB
 split
 ·exact ⟨eO _ Jy,gc _ hp⟩
 split
 ·exact ⟨eO _ Jy,gc _ hp⟩
 split
 ·rw [AN,<- ca];have:=Az (Ac (n:=a) (m:=b)) ha;omega
 split
 ·rw [bOr,<- ca];have:=Ae ha hb;omega
 split
 ·unfold Builtin.bitXor;rw [AN,bOr,<- ca];have h1:=Ae ha hb;have h3:(a &&& b)<=(a ||| b):=cL Ac Nat.left_le_or;omega
 split
 ·split<;>omega
 ·split<;>omega
end FO
namespace FR
open PySem L2 FB FS FG FO PyProof.Rows
abbrev Bx:=List (Key×V)
variable {b ws:Bx} {n:Str}
def aH(b:Bx)(n:Str):Int:=(jC b n).getD 0
def eA(b:Bx):Opd->Int
 | .box n=>aH b n
 | .word i=>i
def cR(b:Bx)(w:Int):Deed->Int
 | .tell a=>eA b a
 | .copy _ a=>eA b a
 | .op f _ x y=>jB f (eA b x) (eA b y) w
structure Stt where
 left:List Stm
 bx:Bx
 told:List Int
def doB(w:Int)(d:Deed)(b:Bx):Bx:=match d with
 | .tell _=>b
 | .copy n _=>bv b (.inr n) (.int (cR b w d))
 | .op _ n _ _=>bv b (.inr n) (.int (cR b w d))
def doT(w:Int)(d:Deed)(b:Bx)(t:List Int):List Int:=match d with
 | .tell _=>t++[cR b w d]
 |_=>t
def fM(w:Int)(s:Stt):Stt:=match s.left with
 | []=>s
 | .deed d::ss=>⟨ss,doB w d s.bx,doT w d s.bx s.told⟩
 | .ifs n x y::ss=>⟨(if aH s.bx n≠0 then x else y)++ss,s.bx,s.told⟩
 | .whl n x::ss=>⟨if aH s.bx n≠0 then x++.whl n x::ss else ss,s.bx,s.told⟩
def bL(w:Int):Nat->Stt->Stt
 |0,s=>s
 |n+1,s=>fM w (bL w n s)
theorem wm{w:Int}{s:Stt}(h:s.left=[]):fM w s=s:=by unfold fM;rw [h]
theorem ml{w:Int}{s:Stt}{n:Nat}(h:(bL w n s).left=[]):∀m,bL w (n+m) s=bL w n s
 |0=>rfl
 |m+1=>by rw [<- Nat.add_assoc,bL,ml h m];exact wm h
theorem kB{w:Int}{s:Stt}{n m:Nat}(h:(bL w n s).left=[])(hm:n<=m):bL w m s=bL w n s:=by obtain ⟨k,rfl⟩:=Nat.exists_eq_add_of_le hm;exact ml h k
structure BxG(ns:List Str)(w:Int)(b:Bx):Prop where
 isI:IntD b
 few:b.length<=1000
 has:∀n∈ns,∃x,jC b n=some x/\0<=x/\x<2 ^ w.toNat
theorem BxG.get{ns:List Str}{w:Int}(h:BxG ns w b)(hn:n∈ns):0<=aH b n/\aH b n<2 ^ w.toNat:=by obtain ⟨x,hx,h0,h1⟩:=h.has n hn;unfold aH;rw [hx];exact ⟨h0,h1⟩
theorem zT{kvs:List (Key×V)}{x:Int}(h:jC kvs n=some x):bE kvs (.inr n)=some (.int x):=by
 unfold jC at h
 split at h
 ·next e=>cases h;exact e
 ·cases h
theorem BxG.val{ns:List Str}{w:Int}(h:BxG ns w b)(hn:n∈ns):bE b (.inr n)=some (.int (aH b n)):=by obtain ⟨x,hx,_⟩:=h.has n hn;unfold aH;rw [hx];exact zT hx
theorem jA{k:Key}{v u:V}(h:bE b k=some u):(bv b k v).length=b.length:=by have:=cM k b;rw [h] at this;unfold bv;rw [if_pos (by rw [this];rfl),zq1]
theorem BxG.put{ns:List Str}{w:Int}{x:Int}(h:BxG ns w b)(hn:n∈ns)(h0:0<=x)(h1:x<2 ^ w.toNat):BxG ns w (bv b (.inr n) (.int x)):=
 ⟨h.isI.put _ _,by rw [jA (h.val hn)];exact h.few,fun m hm=>by
  rw [iU]
  by_cases e:m=n
  ·rw [if_pos e];exact zAC x rfl h0 h1
  ·rw [if_neg e];exact h.has m hm⟩
theorem gz{ns:List Str}{w:Int}{o:Opd}(h:BxG ns w b)(ho:Opd.good ns w o):0<=eA b o/\eA b o<2 ^ w.toNat:=by
 cases o with
 |box n=>exact h.get ho
 |word i=>exact ho
theorem jU{ns:List Str}{w:Int}{d:Deed}(h:BxG ns w b)(hd:Deed.good ns w d)(hw:1<=w):0<=cR b w d/\cR b w d<2 ^ w.toNat:=by
 cases d with
 |tell a=>exact gz h hd
 |copy n a=>exact gz h hd.2
 |op f n x y=>obtain ⟨h1,_,h3,h4⟩:=hd;have a:=gz h h3;have b:=gz h h4;exact C1 h1 a.1 a.2 b.1 b.2 hw
theorem BxG.doB{ns:List Str}{w:Int}{d:Deed}(h:BxG ns w b)(hd:Deed.good ns w d)(hw:1<=w):BxG ns w (doB w d b):=by
 have l:=jU h hd hw
 cases d with
 |tell a=>exact h
 |copy n a=>exact h.put hd.1 l.1 l.2
 |op f n x y=>exact h.put hd.2.1 l.1 l.2
structure SG(ns:List Str)(w:Int)(k:Nat)(s:Stt):Prop where
 wd:1<=w/\w<=8
 bx:BxG ns w s.bx
 gd:bK ns w s.left
 many:∀x∈s.left,x.many<=1000
 len:s.left.length<=1000+1001 * k
 told:s.told.length<=k
 words:∀x∈s.told,0<=x/\x<2 ^ w.toNat
theorem SG.step{ns:List Str}{w:Int}{k:Nat}{s:Stt}(h:SG ns w k s):SG ns w (k+1) (fM w s):=by
 obtain ⟨left,bx,told⟩:=s;have hl:=h.len;have ht:=h.told
 cases left with
 |nil=>exact ⟨h.wd,h.bx,h.gd,h.many,by dsimp only [fM] at hl ⊢;omega,by dsimp only [fM] at ht ⊢;omega,h.words⟩
 |cons x ss=>
  have hm:=h.many x Jz;have hms:∀y∈ss,y.many<=1000:=fun y hy=>h.many y (zq6 _ hy);have hg:x.good ns w/\bK ns w ss:=h.gd;dsimp only at hl ht;rw [cJ] at hl
  cases x with
  |deed d=>
   refine ⟨h.wd,h.bx.doB hg.1 h.wd.1,hg.2,hms,by show ss.length<=_;omega,?_,?_⟩
   ·show (doT w d bx told).length<=k+1;unfold doT
    cases d with
    |tell a=>rw [zq4,c9];omega
    |copy n a=>show told.length<=_;omega
    |op f n a b=>show told.length<=_;omega
   ·show ∀x∈doT w d bx told,_;unfold doT
    cases d with
    |tell a=>
     intro y hy;rcases zq11.mp hy with z | z
     ·exact h.words y z
     ·rw [zq2.mp z];exact jU h.bx hg.1 h.wd.1
    |copy n a=>exact h.words
    |op f n a b=>exact h.words
  |ifs n a b=>
   have hma:aY a<=1000/\aY b<=1000:=by simp only [Stm.many] at hm;omega
   obtain ⟨_,ga,gb⟩:n∈ns/\bK ns w a/\bK ns w b:=hg.1;have key:∀l,aY l<=1000->bK ns w l->SG ns w (k+1) ⟨l++ss,bx,told⟩:=fun l h1 h2=>
    ⟨h.wd,h.bx,goodL_append.mpr ⟨h2,hg.2⟩,fun y hy=>by
     rcases zq11.mp hy with z | z
     ·exact cL (iC z) h1
     ·exact hms y z,by show (l++ss).length<=_;rw [zq4];have:=cC l;omega,by show told.length<=_;omega,h.words⟩
   show SG ns w (k+1) ⟨(if aH bx n≠0 then a else b)++ss,bx,told⟩
   split
   ·exact key a hma.1 ga
   ·exact key b hma.2 gb
  |whl n a=>
   have hma:aY a<=1000:=by simp only [Stm.many] at hm;omega
   obtain ⟨gn,ga⟩:n∈ns/\bK ns w a:=hg.1;show SG ns w (k+1) ⟨if aH bx n≠0 then a++.whl n a::ss else ss,bx,told⟩
   split
   ·refine ⟨h.wd,h.bx,goodL_append.mpr (zAB ga ⟨gn,ga⟩ hg.2),fun y hy=>?_,?_,by show told.length<=_;omega,h.words⟩
    ·rcases zq11.mp hy with z | z
     ·exact cL (iC z) hma
     ·rcases zq5.mp z with z | z
      ·rw [z];exact hm
      ·exact hms y z
    ·show (a++.whl n a::ss).length<=_;rw [zq4,cJ];have:=cC a;omega
   ·exact ⟨h.wd,h.bx,hg.2,hms,by show ss.length<=_;omega,by show told.length<=_;omega,h.words⟩
theorem SG.run{ns:List Str}{w:Int}{s:Stt}(h:SG ns w 0 s):∀n,SG ns w n (bL w n s)
 |0=>h
 |n+1=>(SG.run h n).step
def aV(ins:List Str)(ws:Bx)(ns:List Str):Bx:=ns.foldl (fun b n=>bv b (.inr n) (.int (if n∈ins then aH ws n else 0))) []
theorem eG{ins:List Str}{ns:List Str}:aV ins ws (ns++[n])=bv (aV ins ws ns) (.inr n) (.int (if n∈ins then aH ws n else 0)):=by unfold aV;rw [qJ];rfl
theorem lS{ins:List Str}{w:Int}(hw:∀n∈ins,0<=aH ws n/\aH ws n<2 ^ w.toNat):∀(m:Nat)(ns:List Str),ns.length=m->IntD (aV ins ws ns)/\(aV ins ws ns).length<=ns.length/\∀n∈ns,∃x,jC (aV ins ws ns) n=some x/\0<=x/\x<2 ^ w.toNat:=by
 intro m
 induction m with
 |zero=>
  intro ns h;have:ns=[]:=zq42.mp h;subst this;exact zAB IntD.nil (zq0 _) fun n hn=>by cases hn
 |succ m ih=>
  intro ns h;obtain ⟨l,x,rfl⟩:∃l x,ns=l++[x]:=⟨ns.dropLast,ns.getLast (by intro z;rw [z] at h;simp at h),(sF _).symm⟩
  have hl:l.length=m:=by simpa using h
  obtain ⟨i1,i2,i3⟩:=ih l hl;rw [eG];refine zAB (i1.put _ _) ?_ fun n hn=>?_
  ·have:=cT (aV ins ws l) (.inr x) (.int (if x∈ins then aH ws x else 0));rw [zq4,c9];omega
  ·rw [iU]
   by_cases e:n=x
   ·rw [if_pos e];refine zn _ rfl ?_
    split
    ·next hm=>exact hw x hm
    ·exact ⟨Int.le_refl _,qH Jx⟩
   ·rw [if_neg e];refine i3 n ?_;rcases zq11.mp hn with z | z
    ·exact z
    ·exact absurd (zq2.mp z) e
theorem fQ{ins:List Str}{w:Int}{ns:List Str}(hw:∀n∈ins,0<=aH ws n/\aH ws n<2 ^ w.toNat)(hl:ns.length<=1000):BxG ns w (aV ins ws ns):=by obtain ⟨a,b,c⟩:=lS hw _ ns rfl;exact ⟨a,Jy,c⟩
end FR
namespace L2
open PySem PySem.Spec PyProof.Rows
variable {H:Hp} {p r:Addr}
section
variable {K:W.Frag} {te:TE} {ci:List Nat} {σ:St} {acc:Addr} {Q:Hp->Prop} {H1:Hp} {a:Addr} {xs:List V}
theorem AZ(R:Hp->V->V->Prop)(hR:∀H H' x y,TSame H H'->R H x y->R H' x y)(hz:xs.length<=sizeLine)(hl:SqL K H1 a xs)(hacc:H1 acc=none)
  (hf:∀x∈xs,∀H Q',Same H1 H->(∀y H',Same H H'->R H' x y->Q' y H')->te (aL [some x] ci σ) H Q')
  (q:∀ys H,Same H1 H->H acc=some (.lst ys)->Paired (R H) xs ys->Q H):ce (Itl K a) (bD 1) gO te 1 ci σ acc Q (upd H1 acc (.lst [])):=by
 refine eF (fun i ys H=>Same H1 H/\H acc=some (.lst ys)/\Paired (R H) (xs.take i) ys) (zAB (Same.upd hacc) ac (by rw [Ag];exact .nil)) (fun i ys H _ h=>h.1.seq hl) ?_ ?_
 ·rintro i x ys H os hi ho ⟨sm,ha,hp⟩;obtain ⟨hi',hx⟩:=zq10.mp hi;have hm:=zq9 hi;have e:(aL os ci σ).set 1 (some x)=aL [some x] ci σ:=by
   match os,ho with
   | [o],_=>rfl
  show (∃os',os'.length=1/\(aL os ci σ).set 1 (some x)=aL os' ci σ)/\gO ((aL os ci σ).set 1 (some x)) H _;rw [e];refine ⟨zn ([some x]) rfl rfl,?_⟩;refine (show ∀Z:Bool->Hp->Prop,Z true H->gO (aL [some x] ci σ) H Z from fun Z h=>h) _ ?_;rw [if_pos rfl];refine hf x hm _ _ sm fun y H3 s3 hy=>zAI (s3 _ _ ha) ?_ ((sm.trans s3).updM hacc) ac ?_
  ·have:=hp.length;rw [dS] at this;omega
  ·have tt:TSame H3 (upd H3 acc (.lst (ys++[y]))):=TSame.updL (s3 _ _ ha);rw [eg hi',hx];exact Paired.app (hp.mono fun _ _ z=>hR _ _ _ _ (s3.ts.trans tt) z) (.cons (hR _ _ _ _ tt hy) .nil)
 ·rintro ys H ⟨sm,ha,hp⟩;rw [eE] at hp;exact q ys H sm ha hp
end
theorem gH{c:TT}{tb:TS}{D:dm}{σ:St}(Pv:St->Hp->Prop)(μ:St->Hp->Nat)(h0:Pv σ H)
 (hs:∀σ H,Pv σ H->c σ H fun b H1=>if b=true then ∃N:St->Hp->Prop,(∀σ' H',N σ' H'->∃m',m'<μ σ H/\m'=μ σ' H'/\Pv σ' H')/\tb {D with nx:=N,ct:=N,bk:=D.nx} σ H1 else D.nx σ H1):zD c tb D σ H:=by
 refine zn (fun m σ H=>m=μ σ H/\Pv σ H) (zn _ rfl h0) ?_;rintro m σ H ⟨rfl,p⟩;exact hs σ H p
def SameB(p r:Addr)(H H':Hp):Prop:=∀c o,H c=some o->c≠p->c≠r->H' c=some o
theorem SameB.trans{H1 H2:Hp}(a:SameB p r H H1)(b:SameB p r H1 H2):SameB p r H H2:=fun c o e n m=>b c o (a c o e n m) n m
theorem SameB.of{H':Hp}(s:Same H H'):SameB p r H H':=fun c o e _ _=>s c o e
theorem SameB.upd1{o:HO}:SameB p r H (L2.upd H p o):=fun c u e n _=>by rw [ao n];exact e
theorem SameB.upd2{o:HO}:SameB p r H (L2.upd H r o):=fun c u e _ n=>by rw [ao n];exact e
theorem SameX.tsD{H':Hp}{kvs:List (Key×V)}(s:SameX p H H')(h:H p=some (.dK kvs)):TSame H H':=
 ⟨fun b xs e=>s b _ e (bw e h (by intro z;cases z)),fun b o u e=>s b _ e (bw e h (by intro z;cases z))⟩
end L2
namespace FW
open PySem L2 FB FS FG FO FR PyProof.Rows
section
variable {K:W.Frag} {H:Hp}
end
end FW
namespace FX
open PySem L2 FB FS FG FO FR FW PyProof.Rows
structure Nd where
 rd:List Str
 nm:Option Str
 ah:List Int
def at0(v:Nat->Nat)(j:Int):Nat:=if j<0 then 0 else v j.toNat
def seen(old new:Nat->Nat)(i:Nat)(j:Int):Nat:=if j<0 then 0 else if j.toNat<i then new j.toNat else old j.toNat
section
variable {n:Str} {N:List Nd} {v:Nat->Nat->Nat}
def sq(v:Nat->Nat->Nat)(j:Int):Nat->Nat:=fun p=>at0 (v (p+1)) j
end
section
variable {S:List (List Str)}
end
end FX
namespace FX
open PySem L2 FB FS FG FO FR FW PyProof.Rows PySem.Spec
def leS(a b:Str):Bool:=!ltCps b.cps.toList a.cps.toList
def srt(l:List Str):List Str:=l.mergeSort leS
end FX
namespace L2
open PySem PySem.Spec PyProof.Rows
section
variable {X:Cx}
end
end L2
namespace FZ
open PySem L2 FB FS FG FO FR PyProof.Rows
inductive Ed where
 |stop
 |go (i:Nat)
 |choose (n:Str) (i j:Nat)
 deriving DecidableEq
structure Blk where
 ds:List Deed
 ed:Ed
def b8(b:Blk)(B:List Blk):Nat×List Blk:=match b.ds,b.ed with
 | [],.go i=>(i,B)
 |_,_=>(B.length,B++[b])
mutual
def bR:Stm->Blk->List Blk->Blk×List Blk
 | .deed d,b,B=>if b.ds.length=8 then (⟨[d],.go (b8 b B).1⟩,(b8 b B).2) else (⟨d::b.ds,b.ed⟩,B)
 | .ifs n x y,b,B=>
  let w:=b8 b B
  let o:=aS x ⟨[],.go w.1⟩ w.2
  let wo:=b8 o.1 o.2
  let p:=aS y ⟨[],.go w.1⟩ wo.2
  let wp:=b8 p.1 p.2
  (⟨[],.choose n wo.1 wp.1⟩,wp.2)
 | .whl n a,b,B=>
  let w:=b8 b B
  let o:=aS a ⟨[],.go w.2.length⟩ (w.2++[⟨[],.stop⟩])
  let wo:=b8 o.1 o.2
  (⟨[],.go w.2.length⟩,wo.2.set w.2.length ⟨[],.choose n wo.1 w.1⟩)
def aS:List Stm->Blk->List Blk->Blk×List Blk
 | [],b,B=>(b,B)
 |s::r,b,B=>bR s (aS r b B).1 (aS r b B).2
end
def aW(ss:List Stm):List Blk:=(aS ss ⟨[],.stop⟩ [⟨[],.stop⟩]).2.set 0 (aS ss ⟨[],.stop⟩ [⟨[],.stop⟩]).1
def Ed.tg:Ed->List Nat
 | .stop=>[]
 | .go i=>[i]
 | .choose _ i j=>[i,j]
theorem kN(b:Blk)(B:List Blk):((b8 b B).2=B/\b.ds=[]/\b.ed=.go (b8 b B).1)\/((b8 b B).1=B.length/\(b8 b B).2=B++[b]):=by
 obtain ⟨ds,ed⟩:=b;unfold b8
 cases ds with
 |nil=>
  cases ed with
  |stop=>exact .inr ⟨rfl,rfl⟩
  |go i=>exact .inl (zAB rfl rfl rfl)
  |choose n i j=>exact .inr ⟨rfl,rfl⟩
 |cons d r=>exact .inr ⟨rfl,rfl⟩
theorem b9(b:Blk)(B:List Blk):B.length<=(b8 b B).2.length/\(b8 b B).2.length<=B.length+1/\∀i,i<B.length->(b8 b B).2[i]?=B[i]?:=by
 rcases kN b B with ⟨h,_⟩ | ⟨_,h⟩
 ·rw [h];exact zAB (zq0 _) Jy fun _ _=>rfl
 ·rw [h,zq4,c9];exact zAB Jy Jy fun i hi=>jE hi
theorem cS{A B C:List Blk}(h1:A.length<=B.length/\∀i,i<A.length->B[i]?=A[i]?)(h2:B.length<=C.length/\∀i,i<B.length->C[i]?=B[i]?):A.length<=C.length/\∀i,i<A.length->C[i]?=A[i]?:=⟨cL h1.1 h2.1,fun i hi=>(h2.2 i (dR hi h1.1)).trans (h1.2 i hi)⟩
theorem dW(b:Blk)(B:List Blk):B.length<=(b8 b B).2.length/\∀i,i<B.length->(b8 b B).2[i]?=B[i]?:=⟨(b9 b B).1,(b9 b B).2.2⟩
theorem AL(b:Blk)(B:List Blk):B.length<=(B++[b]).length/\∀i,i<B.length->(B++[b])[i]?=B[i]?:=⟨by rw [zq4];exact nU _ _,fun _ hi=>jE hi⟩
theorem C5{A B:List Blk}(b:Blk)(h:A.length<=B.length/\∀i,i<A.length->B[i]?=A[i]?):A.length<=(B.set A.length b).length/\∀i,i<A.length->(B.set A.length b)[i]?=A[i]?:=⟨by rw [sD];exact h.1,fun i hi=>(wH (lu hi)).trans (h.2 i hi)⟩
mutual
theorem mD:∀(s:Stm)(b:Blk)(B:List Blk),B.length<=(bR s b B).2.length/\∀i,i<B.length->(bR s b B).2[i]?=B[i]?
 | .deed d,b,B=>by
  rw [bR]
  split
  ·exact dW b B
  ·exact ⟨zq0 _,fun _ _=>rfl⟩
 | .ifs n x y,b,B=>by
  rw [bR];exact cS (dW _ _) (cS (bz x _ _) (cS (dW _ _) (cS (bz y _ _) (dW _ _))))
 | .whl n a,b,B=>by rw [bR];exact cS (dW b B) (C5 _ (cS (AL _ _) (cS (bz a _ _) (dW _ _))))
theorem bz:∀(l:List Stm)(b:Blk)(B:List Blk),B.length<=(aS l b B).2.length/\∀i,i<B.length->(aS l b B).2[i]?=B[i]?
 | [],b,B=>by rw [aS];exact ⟨zq0 _,fun _ _=>rfl⟩
 |s::r,b,B=>by rw [aS];exact cS (bz r b B) (mD s _ _)
end
mutual
theorem wB:∀(s:Stm)(b:Blk)(B:List Blk),(bR s b B).2.length<=B.length+3 * s.many
 | .deed d,b,B=>by
  have:=(b9 b B).2.1;rw [bR,Stm.many]
  split<;>dsimp only<;>omega
 | .ifs n x y,b,B=>by
  rw [bR,Stm.many];dsimp only;have h1:=b9 b B;generalize b8 b B=w at *;have h2:=cF x ⟨[],.go w.1⟩ w.2;generalize aS x ⟨[],.go w.1⟩ w.2=o at *;have h3:=b9 o.1 o.2;generalize b8 o.1 o.2=wo at *;have h4:=cF y ⟨[],.go w.1⟩ wo.2;generalize aS y ⟨[],.go w.1⟩ wo.2=p at *;have h5:=b9 p.1 p.2;generalize b8 p.1 p.2=wp at *;omega
 | .whl n a,b,B=>by rw [bR,Stm.many];dsimp only;have h1:=b9 b B;generalize b8 b B=w at *;have h2:=cF a ⟨[],.go w.2.length⟩ (w.2++[⟨[],.stop⟩]);generalize aS a ⟨[],.go w.2.length⟩ (w.2++[⟨[],.stop⟩])=o at *;have h3:=b9 o.1 o.2;generalize b8 o.1 o.2=wo at *;rw [zq4,c9] at h2;rw [sD];omega
theorem cF:∀(l:List Stm)(b:Blk)(B:List Blk),(aS l b B).2.length<=B.length+3 * aY l
 | [],b,B=>by rw [aS,aY];exact nU _ _
 |s::r,b,B=>by have h1:=cF r b B;rw [aS,aY];generalize aS r b B=o at *;have h2:=wB s o.1 o.2;omega
end
theorem ip(ss:List Stm):(aW ss).length<=3 * aY ss+1/\0<(aW ss).length:=by have h1:=cF ss ⟨[],.stop⟩ [⟨[],.stop⟩];have h2:=(bz ss ⟨[],.stop⟩ [⟨[],.stop⟩]).1;unfold aW;rw [sD];simp only [List.length_singleton] at h1 h2;omega
structure BlkG(ns:List Str)(w:Int)(m:Nat)(b:Blk):Prop where
 gd:∀d∈b.ds,Deed.good ns w d
 len:b.ds.length<=8
 tg:∀i∈b.ed.tg,i<m
 nm:∀n i j,b.ed=.choose n i j->n∈ns
theorem BlkG.mono{ns:List Str}{w:Int}{m m':Nat}{b:Blk}(h:BlkG ns w m b)(hm:m<=m'):BlkG ns w m' b:=⟨h.gd,h.len,fun i hi=>dR (h.tg i hi) hm,h.nm⟩
def iW(ns:List Str)(w:Int)(m:Nat)(B:List Blk):Prop:=∀b∈B,BlkG ns w m b
theorem goG{ns:List Str}{w:Int}{m i:Nat}(h:i<m):BlkG ns w m ⟨[],.go i⟩:=⟨fun d hd=>(AD hd).elim,cm _,fun j hj=>by rw [zq2.mp hj];exact h,fun n i j e=>by cases e⟩
theorem zy{ns:List Str}{w:Int}{m:Nat}:BlkG ns w m ⟨[],.stop⟩:=⟨fun d hd=>(AD hd).elim,cm _,fun j hj=>(AD hj).elim,fun n i j e=>by cases e⟩
theorem gF{ns:List Str}{w:Int}{b:Blk}{B:List Blk}(hb:BlkG ns w B.length b)(hB:iW ns w B.length B):(b8 b B).1<(b8 b B).2.length/\iW ns w (b8 b B).2.length (b8 b B).2:=by
 rcases kN b B with ⟨h1,h2,h3⟩ | ⟨h1,h2⟩
 ·rw [h1];exact ⟨hb.tg _ (by rw [h3];simp [Ed.tg]),hB⟩
 ·rw [h1,h2,zq4,c9];refine ⟨Jy,fun c hc=>?_⟩;rcases zq11.mp hc with z | z
  ·exact (hB c z).mono Jy
  ·rw [zq2.mp z];exact hb.mono Jy
mutual
theorem Cg{ns:List Str}{w:Int}:∀(s:Stm)(b:Blk)(B:List Blk),s.good ns w->BlkG ns w B.length b->iW ns w B.length B->BlkG ns w (bR s b B).2.length (bR s b B).1/\iW ns w (bR s b B).2.length (bR s b B).2
 | .deed d,b,B,hs,hb,hB=>by
  rw [bR]
  split
  ·obtain ⟨h1,h2⟩:=gF hb hB;exact ⟨⟨fun c hc=>by rw [zq2.mp hc];exact hs,Jz,fun i hi=>by rw [zq2.mp hi];exact h1,fun n i j e=>by cases e⟩,h2⟩
  ·next hl=>
   have:=hb.len;exact ⟨⟨fun c hc=>by
    rcases zq5.mp hc with z | z
    ·rw [z];exact hs
    ·exact hb.gd c z,by rw [cJ];omega,hb.tg,hb.nm⟩,hB⟩
 | .ifs n x y,b,B,hs,hb,hB=>by
  rw [bR];dsimp only;obtain ⟨h1,h2⟩:=gF hb hB;generalize b8 b B=w0 at *;obtain ⟨h3,h4⟩:=iH x ⟨[],.go w0.1⟩ w0.2 hs.2.1 (goG h1) h2;have l3:=bz x ⟨[],.go w0.1⟩ w0.2;generalize aS x ⟨[],.go w0.1⟩ w0.2=o at *;obtain ⟨h5,h6⟩:=gF h3 h4;have l5:=b9 o.1 o.2;generalize b8 o.1 o.2=wo at *;obtain ⟨h7,h8⟩:=iH y ⟨[],.go w0.1⟩ wo.2 hs.2.2 (goG Jy) h6;have l7:=bz y ⟨[],.go w0.1⟩ wo.2;generalize aS y ⟨[],.go w0.1⟩ wo.2=p at *;obtain ⟨h9,h10⟩:=gF h7 h8;have l9:=b9 p.1 p.2;generalize b8 p.1 p.2=wp at *;refine ⟨⟨fun d hd=>(AD hd).elim,cm _,fun i hi=>?_,fun m i j e=>by cases e;exact hs.1⟩,h10⟩;have hi':i∈[wo.1,wp.1]:=hi;rcases zq5.mp hi' with z | z
  ·omega
  ·rw [zq2.mp z];exact h9
 | .whl n a,b,B,hs,hb,hB=>by
  rw [bR];dsimp only;obtain ⟨h1,h2⟩:=gF hb hB;generalize b8 b B=w0 at *;have hB2:iW ns w (w0.2++[(⟨[],.stop⟩:Blk)]).length (w0.2++[(⟨[],.stop⟩:Blk)]):=fun c hc=>by
   rw [zq4,c9];rcases zq11.mp hc with z | z
   ·exact (h2 c z).mono Jy
   ·rw [zq2.mp z];exact zy
  obtain ⟨h3,h4⟩:=iH a ⟨[],.go w0.2.length⟩ (w0.2++[⟨[],.stop⟩]) hs.2 (goG (by rw [zq4,c9];omega)) hB2;have l3:=bz a ⟨[],.go w0.2.length⟩ (w0.2++[⟨[],.stop⟩]);generalize aS a ⟨[],.go w0.2.length⟩ (w0.2++[⟨[],.stop⟩])=o at *;rw [zq4,c9] at l3;obtain ⟨h5,h6⟩:=gF h3 h4;have l5:=b9 o.1 o.2;generalize b8 o.1 o.2=wo at *;rw [sD];refine ⟨goG Jy,fun c hc=>?_⟩;rcases DV hc with z | z
  ·exact h6 c z
  ·rw [z];refine ⟨fun d hd=>(AD hd).elim,cm _,fun i hi=>?_,fun m i j e=>by cases e;exact hs.1⟩;have hi':i∈[wo.1,w0.1]:=hi;rcases zq5.mp hi' with y | y
   ·rw [y];exact h5
   ·rw [zq2.mp y];omega
theorem iH{ns:List Str}{w:Int}:∀(l:List Stm)(b:Blk)(B:List Blk),bK ns w l->BlkG ns w B.length b->iW ns w B.length B->BlkG ns w (aS l b B).2.length (aS l b B).1/\iW ns w (aS l b B).2.length (aS l b B).2
 | [],b,B,_,hb,hB=>by rw [aS];exact ⟨hb,hB⟩
 |s::r,b,B,hl,hb,hB=>by obtain ⟨h1,h2⟩:=iH r b B hl.2 hb hB;rw [aS];exact Cg s _ _ hl.1 h1 h2
end
theorem jP{ns:List Str}{w:Int}{ss:List Stm}(h:bK ns w ss):iW ns w (aW ss).length (aW ss):=by
 obtain ⟨h1,h2⟩:=iH ss ⟨[],.stop⟩ [⟨[],.stop⟩] h zy (fun c hc=>by rw [zq2.mp hc];exact zy);unfold aW;rw [sD];intro c hc;rcases DV hc with z | z
 ·exact h2 c z
 ·rw [z];exact h1
def Has(F B:List Blk)(k:Nat):Prop:=∀i,k<=i->i<B.length->F[i]?=B[i]?
theorem Has.sub{F B B':List Blk}{k k':Nat}(h:Has F B' k)(hk:k<=k')(hl:B.length<=B'.length)(he:∀i,k'<=i->i<B.length->B'[i]?=B[i]?):Has F B k':=fun i h1 h2=>by rw [h i Jy Jy,he i h1 h2]
end FZ
namespace GA
open PySem L2 FB FS FG FO FR FZ PyProof.Rows
variable {i:Nat}
theorem B4{w:Int}{d:Deed}{b:Bx}{t:List Int}:(doT w d b t).length<=t.length+1:=by
 unfold doT
 cases d with
 |tell a=>simp
 |copy n a=>simp
 |op f n x y=>simp
abbrev BT:=Bx×List Int
def dos(w:Int):List Deed->BT->BT
 | [],s=>s
 |d::r,s=>dos w r (doB w d s.1,doT w d s.1 s.2)
def nxt(b:Bx):Ed->Option Nat
 | .stop=>none
 | .go i=>some i
 | .choose n i j=>some (if aH b n≠0 then i else j)
theorem oS{w:Int}:∀{ds:List Deed} {s:BT},s.2 <+: (dos w ds s).2
 | [],s=>qK _
 |d::r,s=>by
  have h:s.2 <+: doT w d s.1 s.2:=by
   unfold doT
   cases d with
   |tell a=>exact Ah _ _
   |copy n a=>exact qK _
   |op f n x y=>exact qK _
  exact h.trans (oS (ds:=r) (s:=(doB w d s.1,doT w d s.1 s.2)))
theorem jV{w:Int}{ds:List Deed}{s:BT}{d:Deed}(h:ds[i]?=some d):dos w (ds.take (i+1)) s=(doB w d (dos w (ds.take i) s).1,doT w d (dos w (ds.take i) s).1 (dos w (ds.take i) s).2):=by
 obtain ⟨hi,e⟩:=zq10.mp h;have app:∀(l m:List Deed)(s:BT),dos w (l++m) s=dos w m (dos w l s):=by
  intro l
  induction l with
  |nil=>intro m s;rfl
  |cons x r ih=>intro m s;exact ih m _
 rw [eg hi,e,app];rfl
def Way(F:List Blk)(b:Blk)(i:Nat):Prop:=b=⟨[],.go i⟩\/(F[i]?=some b/\¬∃j,b=⟨[],.go j⟩)
mutual
inductive jL (F:List Blk):Stm->Blk->Blk->Prop where
 |add {d:Deed} {b:Blk}:jL F (.deed d) b ⟨d::b.ds,b.ed⟩
 |cut {d:Deed} {b:Blk} {i:Nat}:Way F b i->jL F (.deed d) b ⟨[d],.go i⟩
 |ifs {n:Str} {x y:List Stm} {b c e:Blk} {i j k:Nat}:Way F b i->kQ F x ⟨[],.go i⟩ c->Way F c j->kQ F y ⟨[],.go i⟩ e->Way F e k->jL F (.ifs n x y) b ⟨[],.choose n j k⟩
 |whl {n:Str} {a:List Stm} {b c:Blk} {i j L:Nat}:Way F b i->F[L]?=some ⟨[],.choose n j i⟩->kQ F a ⟨[],.go L⟩ c->Way F c j->jL F (.whl n a) b ⟨[],.go L⟩
inductive kQ (F:List Blk):List Stm->Blk->Blk->Prop where
 |nil {b:Blk}:kQ F [] b b
 |cons {s:Stm} {r:List Stm} {b c e:Blk}:kQ F r b c->jL F s c e->kQ F (s::r) b e
end
inductive Rep (F:List Blk):List Stm->Blk->Prop where
 |nil:Rep F [] ⟨[],.stop⟩
 |go {l:List Stm} {b:Blk} {i:Nat}:Rep F l b->F[i]?=some b->(¬∃j,b=⟨[],.go j⟩)->Rep F l ⟨[],.go i⟩
 |cons {s:Stm} {l:List Stm} {b c:Blk}:jL F s b c->Rep F l b->Rep F (s::l) c
 |head {n:Str} {a l:List Stm} {b c:Blk} {i j L:Nat}:Way F b i->Rep F l b->F[L]?=some ⟨[],.choose n j i⟩->kQ F a ⟨[],.go L⟩ c->Way F c j->Rep F (.whl n a::l) ⟨[],.choose n j i⟩
theorem Rep.app{F:List Blk}:∀{l r:List Stm} {b c:Blk},kQ F l b c->Rep F r b->Rep F (l++r) c
 |_,_,_,_,.nil,h=>h
 |_,_,_,_,.cons hr hs,h=>.cons hs (Rep.app hr h)
theorem Rep.way{F:List Blk}{l:List Stm}{b:Blk}(h:Rep F l b)(hw:Way F b i):Rep F l ⟨[],.go i⟩:=by
 rcases hw with rfl | ⟨h1,h2⟩
 ·exact h
 ·exact .go h h1 h2
theorem Rep.hop{F:List Blk}{l:List Stm}{b0:Blk}(h:Rep F l b0)(e0:b0=⟨[],.go i⟩):∃b,F[i]?=some b/\Rep F l b/\¬∃j,b=⟨[],.go j⟩:=by
 cases h with
 |nil=>cases e0
 |go h1 h2 h3=>cases e0;exact zAC _ h2 h1 h3
 |head=>cases e0
 |cons hs h1=>
  cases hs with
  |add=>cases e0
  |cut=>cases e0
  |ifs=>cases e0
  |whl w0 hL ha hw=>
   cases e0
   exact zAC _ hL (.head w0 h1 hL ha hw) fun ⟨j,e⟩=>by cases e
theorem gG{F:List Blk}{b:Blk}{B:List Blk}(h:Has F (b8 b B).2 B.length):Way F b (b8 b B).1:=by
 by_cases e:∃j,b=⟨[],.go j⟩
 ·obtain ⟨j,rfl⟩:=e;exact .inl rfl
 ·rcases kN b B with ⟨h1,h2,h3⟩ | ⟨h1,h2⟩
  ·exact absurd ⟨(b8 b B).1,by rw [<- h3,<- h2]⟩ e
  ·refine .inr ⟨?_,e⟩;rw [h1,h B.length (zq0 _) (by rw [h2,zq4,c9];omega),h2,jh (zq0 _),qL];rfl
mutual
theorem Cf{F:List Blk}:∀(s:Stm)(b:Blk)(B:List Blk),Has F (bR s b B).2 B.length->jL F s b (bR s b B).1
 | .deed d,b,B,h=>by
  rw [bR] at h ⊢
  split at h
  ·next hl=>rw [if_pos hl];exact .cut (gG h)
  ·next hl=>
   rw [if_neg hl];exact .add
 | .ifs n x y,b,B,h=>by
  rw [bR] at h ⊢;dsimp only at h ⊢;have g1:=b9 b B;have r1:=fun h=>gG (F:=F) (b:=b) (B:=B) h;generalize b8 b B=w at *;have g2:=bz x ⟨[],.go w.1⟩ w.2;have r2:=fun h=>iG (F:=F) x ⟨[],.go w.1⟩ w.2 h;generalize aS x ⟨[],.go w.1⟩ w.2=o at *;have g3:=b9 o.1 o.2;have r3:=fun h=>gG (F:=F) (b:=o.1) (B:=o.2) h;generalize b8 o.1 o.2=wo at *;have g4:=bz y ⟨[],.go w.1⟩ wo.2;have r4:=fun h=>iG (F:=F) y ⟨[],.go w.1⟩ wo.2 h;generalize aS y ⟨[],.go w.1⟩ wo.2=p at *;have g5:=b9 p.1 p.2;have r5:=fun h=>gG (F:=F) (b:=p.1) (B:=p.2) h;generalize b8 p.1 p.2=wp at *;have a12:=cL g1.1 g2.1;have a13:=cL a12 g3.1;have a14:=cL a13 g4.1;have b4:=g5.1;have b3:=cL g4.1 b4;have b2:=cL g3.1 b3;have b1:=cL g2.1 b2;have u3:∀i,i<wo.2.length->wp.2[i]?=wo.2[i]?:=fun i h2=>(g5.2.2 i (dR h2 g4.1)).trans (g4.2 i h2);have u2:∀i,i<o.2.length->wp.2[i]?=o.2[i]?:=fun i h2=>(u3 i (dR h2 g3.1)).trans (g3.2.2 i h2);have u1:∀i,i<w.2.length->wp.2[i]?=w.2[i]?:=fun i h2=>(u2 i (dR h2 g2.1)).trans (g2.2 i h2);have e5:Has F wp.2 p.2.length:=h.sub a14 (zq0 _) fun _ _ _=>rfl;have e4:Has F p.2 wo.2.length:=h.sub a13 b4 fun i _ h2=>g5.2.2 i h2;have e3:Has F wo.2 o.2.length:=h.sub a12 b3 fun i _ h2=>u3 i h2;have e2:Has F o.2 w.2.length:=h.sub g1.1 b2 fun i _ h2=>u2 i h2;have e1:Has F w.2 B.length:=h.sub (zq0 _) b1 fun i _ h2=>u1 i h2;exact .ifs (r1 e1) (r2 e2) (r3 e3) (r4 e4) (r5 e5)
 | .whl n a,b,B,h=>by
  rw [bR] at h ⊢;dsimp only at h ⊢;have g1:=b9 b B;have r1:=fun h=>gG (F:=F) (b:=b) (B:=B) h;generalize b8 b B=w at *;have g2:=bz a ⟨[],.go w.2.length⟩ (w.2++[⟨[],.stop⟩]);have r2:=fun h=>iG (F:=F) a ⟨[],.go w.2.length⟩ (w.2++[⟨[],.stop⟩]) h;generalize aS a ⟨[],.go w.2.length⟩ (w.2++[⟨[],.stop⟩])=o at *;rw [zq4,c9] at g2 r2;have g3:=b9 o.1 o.2;have r3:=fun h=>gG (F:=F) (b:=o.1) (B:=o.2) h;generalize b8 o.1 o.2=wo at *;have lset:(wo.2.set w.2.length (⟨[],.choose n wo.1 w.1⟩:Blk)).length=wo.2.length:=sD ..;have c1:w.2.length<o.2.length:=g2.1;have c2:w.2.length<wo.2.length:=dR c1 g3.1;have le2:=nO c2;have nes:∀i,w.2.length<i->(wo.2.set w.2.length (⟨[],.choose n wo.1 w.1⟩:Blk))[i]?=wo.2[i]?:=fun i hi=>wH (cx hi);have nel:∀i,i<w.2.length->(wo.2.set w.2.length (⟨[],.choose n wo.1 w.1⟩:Blk))[i]?=wo.2[i]?:=fun i hi=>wH (lu hi);have e3:Has F wo.2 o.2.length:=h.sub (cL g1.1 (nO c1)) (wI lset.symm) fun i h1 h2=>nes i (dR c1 h1);have e2:Has F o.2 (w.2.length+1):=h.sub (Nat.le_succ_of_le g1.1) (cL g3.1 (wI lset.symm)) fun i h1 h2=>(nes i h1).trans (g3.2.2 i h2);have e1:Has F w.2 B.length:=h.sub (zq0 _) (cL le2 (wI lset.symm)) fun i h1 h2=>by rw [nel i h2,g3.2.2 i (Nat.lt_trans h2 c1),g2.2 i (Nat.lt_succ_of_lt h2),jE h2]
  have el:F[w.2.length]?=some ⟨[],.choose n wo.1 w.1⟩:=by rw [h w.2.length g1.1 (dR c2 (wI lset.symm)),Av c2]
  exact .whl (r1 e1) el (r2 e2) (r3 e3)
theorem iG{F:List Blk}:∀(l:List Stm)(b:Blk)(B:List Blk),Has F (aS l b B).2 B.length->kQ F l b (aS l b B).1
 | [],b,B,_=>by rw [aS];exact .nil
 |s::r,b,B,h=>by rw [aS] at h ⊢;have g1:=bz r b B;have r1:=fun h=>iG (F:=F) r b B h;generalize aS r b B=o at *;have g2:=mD s o.1 o.2;have r2:=fun h=>Cf (F:=F) s o.1 o.2 h;generalize bR s o.1 o.2=p at *;exact .cons (r1 (h.sub (zq0 _) g2.1 fun i _ h2=>g2.2 i h2)) (r2 (h.sub g1.1 (zq0 _) fun _ _ _=>rfl))
end
theorem mJ(ss:List Stm):∃c,(aW ss)[0]?=some c/\Rep (aW ss) ss c:=by have g:=bz ss ⟨[],.stop⟩ [⟨[],.stop⟩];have r:=fun h=>iG (F:=aW ss) ss ⟨[],.stop⟩ [⟨[],.stop⟩] h;have e0:aW ss=(aS ss ⟨[],.stop⟩ [⟨[],.stop⟩]).2.set 0 (aS ss ⟨[],.stop⟩ [⟨[],.stop⟩]).1:=rfl;generalize aS ss ⟨[],.stop⟩ [⟨[],.stop⟩]=o at *;rw [c9] at g r;refine zn o.1 (by rw [e0,Av Jy]) ?_;have h:=Rep.app (r fun j h1 h2=>by rw [e0,wH Jy]) (.nil (F:=aW ss));rwa [gQ] at h
end GA
namespace GD
variable {b bt dn:List Nat} {p r:Nat}
section
variable (G:Nat->Nat->Option Int) (so:Nat->Nat) (U:Nat->Int)
def fO(bt:List Nat)(s:Nat):Nat:=bt.countP fun o=>decide (so o=s)
def cX(dn bt:List Nat)(p j:Nat):Bool:=match G j p with
 |none=>true
 |some l=>decide (j∈dn) || (decide (l=0)&&decide (j∈bt))
def bQ(dn bt:List Nat)(p:Nat):Bool:=!(decide (so p<3)&&decide ((fO so bt (so p):Int)=U (so p)))&&(List.range p).all (cX G dn bt p)
def gY(dn bt:List Nat)(p:Nat):List (List Nat):=(if bQ G so U dn bt p=true then [bt++[p]] else [])++(if bQ G so U dn bt p=false\/so p<3 then [bt] else [])
def bH(dn:List Nat)(bts:List (List Nat))(p:Nat):List (List Nat):=bts.flatMap fun b=>gY G so U dn b p
def cq(n:Nat)(dn:List Nat):List Nat:=(List.range n).filter fun p=>!decide (p∈dn)
def roomB(dn b ms:List Nat):Bool:=ms.any fun p=>!decide (p∈b)&&bQ G so U dn b p
def c5(n:Nat)(dn:List Nat):List (List Nat):=((cq n dn).foldl (bH G so U dn) [[]]).filter fun b=>!roomB G so U dn b (cq n dn)
def cZ(n:Nat)(dn b:List Nat):List Nat:=(List.range n).filter fun p=>decide (p∈dn) || decide (p∈b)
def iN(acc:List (List Nat×List (List Nat)))(k:List Nat)(v:List (List Nat)):List (List Nat×List (List Nat)):=if k∈acc.map (·.1) then acc else acc++[(k,v)]
def eh(n:Nat)(acc:List (List Nat×List (List Nat)))(w:List Nat×List (List Nat))(bs:List (List Nat)):List (List Nat×List (List Nat)):=bs.foldl (fun acc b=>iN acc (cZ n w.1 b) (w.2++[b])) acc
def DJ(n:Nat)(ws:List (List Nat×List (List Nat))):List (List Nat×List (List Nat)):=ws.foldl (fun acc w=>eh n acc w (c5 G so U n w.1)) []
def cc(n:Nat):Nat->List (List Nat×List (List Nat))
 |0=>[([],[])]
 |r+1=>DJ G so U n (cc n r)
inductive Lay (n:Nat):List (List Nat)->List Nat->Prop
 |nil:Lay n [] []
 |snoc {bss dn b}:Lay n bss dn->b∈c5 G so U n dn->Lay n (bss++[b]) (cZ n dn b)
structure Fine(dn ms b:List Nat):Prop where
 sub:b.Sublist ms
 lean:∀p∈b,∀j,j<p->cX G dn b p j=true
 load:∀s,s<3->(fO so b s:Int)<=U s
end
section
variable {G:Nat->Nat->Option Int} {so:Nat->Nat} {U:Nat->Int} {n:Nat}
theorem uY{s:Nat}:fO so (bt++[p]) s=fO so bt s+(if so p=s then 1 else 0):=by unfold fO;rw [Ai];simp [List.countP_cons]
theorem jO{e:List Nat}{j:Nat}(h:cX G dn b p j=true):cX G dn (b++e) p j=true:=by
 unfold cX at *
 split
 ·rfl
 ·rename_i l hl
  rw [hl] at h;simp only [Bool.or_eq_true,Bool.and_eq_true,decide_eq_true_eq,List.mem_append] at *;rcases h with h | ⟨h1,h2⟩
  ·exact .inl h
  ·exact .inr ⟨h1,.inl h2⟩
theorem fits_iff:bQ G so U dn bt p=true↔(so p<3->(fO so bt (so p):Int)≠U (so p))/\∀j,j<p->cX G dn bt p j=true:=by
 unfold bQ;simp only [Bool.and_eq_true,Bool.not_eq_true',Bool.and_eq_false_iff,decide_eq_false_iff_not,List.all_eq_true,List.mem_range]
 constructor
 ·rintro ⟨h1,h2⟩;exact ⟨fun h=>h1.elim (fun z=>absurd h z) id,h2⟩
 ·rintro ⟨h1,h2⟩;refine ⟨?_,h2⟩
  by_cases h:so p<3
  ·exact .inr (h1 h)
  ·exact .inl h
theorem Fine.mono{ms ms':List Nat}(h:Fine G so U dn ms b)(hs:ms.Sublist ms'):Fine G so U dn ms' b:=⟨h.sub.trans hs,h.lean,h.load⟩
theorem Fine.add{ms:List Nat}(h:Fine G so U dn ms b)(hf:bQ G so U dn b p=true):Fine G so U dn (ms++[p]) (b++[p]):=by
 obtain ⟨h1,h2⟩:=fits_iff.mp hf;refine ⟨h.sub.append (List.Sublist.refl _),fun q hq j hj=>?_,fun s hs=>?_⟩
 ·rcases zq11.mp hq with hq | hq
  ·exact jO (h.lean q hq j hj)
  ·rw [zq2.mp hq] at hj ⊢;exact jO (h2 j hj)
 ·rw [uY];have:=h.load s hs
  by_cases e:so p=s
  ·have:=h1 Jy;rw [if_pos e];rw [e] at this;omega
  ·rw [if_neg e];omega
theorem ph{c:List Nat}(h:c∈gY G so U dn bt p):(bQ G so U dn bt p=true/\c=bt++[p])\/c=bt:=by
 unfold gY at h;rcases zq11.mp h with h | h
 ·split at h
  ·exact .inl ⟨by assumption,zq2.mp h⟩
  ·cases h
 ·split at h
  ·exact .inr (zq2.mp h)
  ·cases h
theorem i7{dn:List Nat}:∀(ms pre:List Nat)(bts:List (List Nat)),(∀b∈bts,Fine G so U dn pre b)->∀b∈ms.foldl (bH G so U dn) bts,Fine G so U dn (pre++ms) b
 | [],pre,bts,h,b,hb=>by rw [gQ];exact h b hb
 |p::ms,pre,bts,h,b,hb=>by
  have z:=i7 ms (pre++[p]) (bH G so U dn bts p) (fun c hc=>by
   obtain ⟨b',hb',hc⟩:=zq74.mp hc;rcases ph hc with ⟨hf,rfl⟩ | rfl
   ·exact (h _ hb').add hf
   ·exact (h _ hb').mono (AE ..)) b hb
  rwa [qI] at z
theorem j5(hU:∀s,s<3->0<U s)(h:b∈c5 G so U n dn):Fine G so U dn (cq n dn) b:=by
 have z:=i7 (G:=G) (so:=so) (U:=U) (dn:=dn) (cq n dn) [] [[]] (fun c hc=>by rw [zq2.mp hc];exact ⟨List.Sublist.refl _,fun p hp=>(by cases hp),fun s hs=>by have:=hU s hs;simp [fO];omega⟩) b (zq39.mp h).1
 rwa [qM] at z
theorem vj(h:b∈c5 G so U n dn):∀p∈cq n dn,p∉b->bQ G so U dn b p=false:=by intro p hp hb;have z:=(zq39.mp h).2;simp only [Bool.not_eq_true',roomB,List.any_eq_false,Bool.and_eq_true,not_and,Bool.not_eq_true',decide_eq_false_iff_not] at z;simpa using z p hp hb
theorem miss_iff:p∈cq n dn↔p<n/\p∉dn:=by unfold cq;rw [zq39,zq40];simp
theorem fU:(cq n dn).Pairwise (· < ·):=List.Pairwise.filter _ zq97
def fm(G:Nat->Nat->Option Int)(so:Nat->Nat)(U:Nat->Int)(dn:List Nat)(b:List Nat)(p:Nat):List Nat:=if bQ G so U dn b p=true then b++[p] else b
theorem oZ{dn:List Nat}:∀(ms:List Nat)(b:List Nat)(bts:List (List Nat)),b∈bts->ms.foldl (fm G so U dn) b∈ms.foldl (bH G so U dn) bts
 | [],_,_,h=>h
 |p::ms,b,bts,h=>by
  refine oZ ms _ _ (zq74.mpr (zn b h ?_));unfold fm gY
  cases hf:bQ G so U dn b p<;>simp
theorem jY{dn:List Nat}:∀(ms:List Nat)(b:List Nat),∃e,ms.foldl (fm G so U dn) b=b++e/\∀q∈e,q∈ms
 | [],b=>zn ([]) Jz fun q hq=>by cases hq
 |p::ms,b=>by
  obtain ⟨e,h1,h2⟩:=jY ms (fm G so U dn b p);rw [Aj,h1];unfold fm
  split
  ·exact zn (p::e) Jz fun q hq=>by rcases zq5.mp hq with rfl | hq<;>simp_all
  ·exact zn e rfl fun q hq=>zq6 _ (h2 q hq)
theorem B1{e:List Nat}{s:Nat}:fO so b s<=fO so (b++e) s:=by unfold fO;rw [Ai];omega
theorem rf(hU:∀s,s<3->0<U s):(cq n dn).foldl (fm G so U dn) []∈c5 G so U n dn:=by
 have hin:=oZ (G:=G) (so:=so) (U:=U) (dn:=dn) (cq n dn) [] [[]] Jz;have hfin:=i7 (G:=G) (so:=so) (U:=U) (dn:=dn) (cq n dn) [] [[]] (fun c hc=>by rw [zq2.mp hc];exact ⟨List.Sublist.refl _,fun p hp=>(by cases hp),fun s hs=>by have:=hU s hs;simp [fO];omega⟩) _ hin
 refine zq39.mpr ⟨hin,?_⟩;simp only [Bool.not_eq_true',roomB,List.any_eq_false,Bool.and_eq_true,not_and,Bool.not_eq_true',decide_eq_false_iff_not];intro p hp hb hf;obtain ⟨pre,post,e⟩:=List.append_of_mem hp;have srt:=fU (n:=n) (dn:=dn);rw [e] at srt hb hf hfin;rw [qJ,Aj] at hb hf hfin;obtain ⟨b0,hb0⟩:∃b0,b0=List.foldl (fm G so U dn) [] pre:=⟨_,rfl⟩
 rw [<- hb0] at hb hf hfin;obtain ⟨e2,h1,h2⟩:=jY (G:=G) (so:=so) (U:=U) (dn:=dn) post (fm G so U dn b0 p);rw [h1] at hb hf hfin;have srt2:=(List.pairwise_append.mp srt).2.1;rw [uQ] at srt2;unfold fm at hb hf hfin
 by_cases hfb:bQ G so U dn b0 p=true
 ·rw [if_pos hfb] at hb;exact hb Jz
 ·rw [if_neg hfb] at hf hfin;obtain ⟨f1,f2⟩:=fits_iff.mp hf;refine hfb (fits_iff.mpr ⟨fun hs hc=>?_,fun j hj=>?_⟩)
  ·have a:=hfin.load _ hs;have b:=B1 (so:=so) (b:=b0) (e:=e2) (s:=so p);exact f1 hs Jy
  ·have z:=f2 j hj;unfold cX at z ⊢
   cases hg:G j p with
   |none=>rfl
   |some l=>
    rw [hg] at z;simp only [Bool.or_eq_true,Bool.and_eq_true,decide_eq_true_eq,List.mem_append] at z ⊢;rcases z with z | ⟨z1,z2 | z2⟩
    ·exact .inl z
    ·exact .inr ⟨z1,z2⟩
    ·have:=srt2.1 j (h2 j z2);omega
theorem tm(hU:∀s,s<3->0<U s)(h:b∈c5 G so U n dn)(hm:cq n dn≠[]):b≠[]:=by
 rintro rfl;obtain ⟨p,hp⟩:∃p,p∈cq n dn:=Ak _ hm;have least:∀k p,p<=k->p∈cq n dn->∃q∈cq n dn,∀j,j<q->j∈dn:=by
  intro k
  induction k with
  |zero=>intro p hk hp;exact zn p hp fun j hj=>by omega
  |succ k ih=>
   intro p hk hp
   by_cases ha:∀j,j<p->j∈dn
   ·exact zn p hp ha
   ·have:∃j,j<p/\j∉dn:=by apply Classical.byContradiction;intro h';apply ha;intro j hj;apply Classical.byContradiction;intro h'';exact h' (zn j hj h'')
    obtain ⟨j,hj,hjd⟩:=this;have:=(miss_iff.mp hp).1;exact ih j Jy (miss_iff.mpr ⟨Jy,hjd⟩)
 obtain ⟨q,hq,hall⟩:=least p p (zq0 _) hp;have z:=vj h q hq Jz;have y:bQ G so U dn [] q=true:=by
  refine fits_iff.mpr ⟨fun hs hc=>?_,fun j hj=>?_⟩
  ·have:=hU _ hs;simp [fO] at hc;omega
  ·unfold cX
   split
   ·rfl
   ·simp [hall j hj]
 rw [y] at z
 cases z
theorem Bb:p∈cZ n dn b↔p<n/\(p∈dn\/p∈b):=by unfold cZ;rw [zq39,zq40];simp
def Can(n:Nat)(dn:List Nat):Prop:=dn.Sublist (List.range n)
theorem mL:Can n (cZ n dn b):=List.filter_sublist
theorem Can.lt(h:Can n dn)(hp:p∈dn):p<n:=zq40.mp (h.subset hp)
theorem Can.sorted(h:Can n dn):dn.Pairwise (· < ·):=List.Pairwise.sublist h zq97
theorem kF:∀{a b:List Nat},a.Pairwise (· < ·)->b.Pairwise (· < ·)->(∀p,p∈a↔p∈b)->a=b
 | [],[],_,_,_=>rfl
 | [],y::b,_,_,h=>absurd ((h y).mpr Jz) Jz
 |x::a,[],_,_,h=>absurd ((h x).mp Jz) Jz
 |x::a,y::b,ha,hb,h=>by
  rw [uQ] at ha hb;have exy:x=y:=by
   have h1:=(h x).mp Jz;have h2:=(h y).mpr Jz;rcases zq5.mp h1 with e | h1
   ·exact e
   ·rcases zq5.mp h2 with e | h2
    ·exact e.symm
    ·have:=ha.1 y h2;have:=hb.1 x h1;omega
  subst exy;rw [kF ha.2 hb.2 fun p=>?_]
  constructor
  ·intro hp;rcases zq5.mp ((h p).mp (zq6 _ hp)) with e | z
   ·have:=ha.1 p hp;omega
   ·exact z
  ·intro hp;rcases zq5.mp ((h p).mpr (zq6 _ hp)) with e | z
   ·have:=hb.1 p hp;omega
   ·exact z
theorem Can.miss(h:Can n dn)(hne:dn≠List.range n):cq n dn≠[]:=by
 intro e;apply hne;refine kF h.sorted zq97 fun p=>⟨fun hp=>zq40.mpr (h.lt hp),fun hp=>?_⟩
 apply Classical.byContradiction;intro hd;have:=miss_iff.mpr ⟨zq40.mp hp,hd⟩;rw [e] at this
 cases this
theorem Can.len(h:Can n dn):dn.length<=n:=by have:=h.length_le;rwa [fc] at this
theorem Can.len_lt(h:Can n dn)(hne:dn≠List.range n):dn.length<n:=by
 rcases Nat.lt_or_ge dn.length n with z | z
 ·exact z
 ·exact absurd (h.eq_of_length (by rw [fc];have:=h.len;omega)) hne
theorem Lay.can{bss:List (List Nat)}(h:Lay G so U n bss dn):Can n dn:=by
 cases h with
 |nil=>exact List.nil_sublist _
 |snoc=>exact mL
theorem kd(h:Can n dn)(hb:b.Sublist (cq n dn)):(dn++b).Perm (cZ n dn b):=by have hbm:∀p∈b,p<n/\p∉dn:=fun p hp=>miss_iff.mp (hb.subset hp);have nb:b.Nodup:=(List.Pairwise.sublist hb fU).imp fun h=>cx h;have nd:dn.Nodup:=h.sorted.imp fun h=>cx h;have nk:(cZ n dn b).Nodup:=(mL (n:=n) (dn:=dn) (b:=b)).sorted.imp fun h=>cx h;have nab:(dn++b).Nodup:=zq59.mpr (zAB nd nb fun x hx y hy e=>by subst e;exact (hbm x hy).2 hx);refine (DW nab nk).mpr fun p=>?_;rw [Bb,zq11];exact ⟨fun z=>⟨z.elim (fun z=>h.lt z) fun z=>(hbm p z).1,z⟩,fun z=>z.2⟩
theorem Ba(h:Can n dn)(hb:b.Sublist (cq n dn)):(cZ n dn b).length=dn.length+b.length:=by rw [<- (kd h hb).length_eq,zq4]
theorem jb{acc:List (List Nat×List (List Nat))}{k:List Nat}{v:List (List Nat)}{x:List Nat×List (List Nat)}(h:x∈iN acc k v):x∈acc\/x=(k,v):=by
 unfold iN at h
 split at h
 ·exact .inl h
 ·rcases zq11.mp h with h | h
  ·exact .inl h
  ·exact .inr (zq2.mp h)
theorem zl{acc:List (List Nat×List (List Nat))}{k:List Nat}{v:List (List Nat)}:k∈(iN acc k v).map (·.1):=by
 unfold iN
 split
 ·assumption
 ·simp
theorem wl{acc:List (List Nat×List (List Nat))}{k:List Nat}{v:List (List Nat)}{x:List Nat×List (List Nat)}(h:x∈acc):x∈iN acc k v:=by
 unfold iN
 split
 ·exact h
 ·exact jD _ h
theorem rV{acc:List (List Nat×List (List Nat))}{k:List Nat}{v:List (List Nat)}(h:(acc.map (·.1)).Nodup):((iN acc k v).map (·.1)).Nodup:=by
 unfold iN
 split
 ·exact h
 ·rename_i hk
  rw [cy,zq59];exact zAB h Jz fun x hx y hy e=>by subst e;rw [uP,zq2] at hy;subst hy;exact hk hx
structure WOk(G:Nat->Nat->Option Int)(so:Nat->Nat)(U:Nat->Int)(n r:Nat)(ws:List (List Nat×List (List Nat))):Prop where
 lay:∀w∈ws,Lay G so U n w.2 w.1/\w.2.length=r
 nodup:(ws.map (·.1)).Nodup
theorem WOk.set{acc:List (List Nat×List (List Nat))}{bss:List (List Nat)}(h:WOk G so U n (r+1) acc)(hl:Lay G so U n bss dn)(hr:bss.length=r)(hb:b∈c5 G so U n dn):WOk G so U n (r+1) (iN acc (cZ n dn b) (bss++[b])):=
 ⟨fun w hw=>by
  rcases jb hw with hw | rfl
  ·exact h.lay w hw
  ·exact ⟨hl.snoc hb,by simp [hr]⟩,rV h.nodup⟩
theorem WOk.add{w:List Nat×List (List Nat)}(hl:Lay G so U n w.2 w.1)(hr:w.2.length=r):∀(bs:List (List Nat)) (acc:List (List Nat×List (List Nat))),(∀b∈bs,b∈c5 G so U n w.1)->WOk G so U n (r+1) acc->WOk G so U n (r+1) (eh n acc w bs)
 | [],_,_,h=>h
 |b::bs,acc,hb,h=>WOk.add hl hr bs _ (fun c hc=>hb c (zq6 _ hc)) (h.set hl hr (hb b Jz))
theorem WOk.step:∀(ws acc:List (List Nat×List (List Nat))),(∀w∈ws,Lay G so U n w.2 w.1/\w.2.length=r)->WOk G so U n (r+1) acc->WOk G so U n (r+1) (ws.foldl (fun acc w=>eh n acc w (c5 G so U n w.1)) acc)
 | [],_,_,h=>h
 |w::ws,acc,hw,h=>WOk.step ws _ (fun x hx=>hw x (zq6 _ hx)) (WOk.add (hw w Jz).1 (hw w Jz).2 _ _ (fun _ h=>h) h)
theorem iT:∀r,WOk G so U n r (cc G so U n r)
 |0=>⟨fun w hw=>by rw [cc,zq2] at hw;subst hw;exact ⟨.nil,rfl⟩,by simp [cc]⟩
 |r+1=>WOk.step _ _ (iT r).lay ⟨fun w hw=>(by cases hw),Jz⟩
theorem iX{w x:List Nat×List (List Nat)}:∀(bs:List (List Nat)) (acc:List (List Nat×List (List Nat))),x∈acc->x∈eh n acc w bs
 | [],_,h=>h
 |b::bs,acc,h=>iX bs _ (wl h)
theorem nX{w:List Nat×List (List Nat)}{b:List Nat}:∀(bs:List (List Nat)) (acc:List (List Nat×List (List Nat))),b∈bs->cZ n w.1 b∈(eh n acc w bs).map (·.1)
 | [],_,h=>by cases h
 |c::bs,acc,h=>by
  rcases zq5.mp h with rfl | h
  ·obtain ⟨x,hx,e⟩:=zq23.mp (zl (acc:=acc) (k:=cZ n w.1 b) (v:=w.2++[b]));exact zq23.mpr (zn x (iX bs _ hx) e)
  ·exact nX bs _ h
theorem my{x:List Nat×List (List Nat)}:∀(ws acc:List (List Nat×List (List Nat))),x∈acc->x∈ws.foldl (fun acc w=>eh n acc w (c5 G so U n w.1)) acc
 | [],_,h=>h
 |w::ws,acc,h=>my ws _ (iX _ _ h)
theorem qj{w:List Nat×List (List Nat)}{b:List Nat}(hb:b∈c5 G so U n w.1):∀(ws acc:List (List Nat×List (List Nat))),w∈ws->cZ n w.1 b∈(ws.foldl (fun acc w=>eh n acc w (c5 G so U n w.1)) acc).map (·.1)
 | [],_,h=>by cases h
 |c::ws,acc,h=>by
  rcases zq5.mp h with rfl | h
  ·obtain ⟨x,hx,e⟩:=zq23.mp (nX (n:=n) (w:=w) (c5 G so U n w.1) acc hb);exact zq23.mpr (zn x (my ws _ hx) e)
  ·exact qj hb ws _ h
theorem uE(hU:∀s,s<3->0<U s):∀r,cc G so U n r≠[]
 |0=>by simp [cc]
 |r+1=>by
  obtain ⟨w,hw⟩:=Ak _ (uE hU r);have z:=qj (rf (G:=G) (so:=so) hU (n:=n) (dn:=w.1)) (cc G so U n r) [] hw;intro e;rw [cc,DJ] at e;rw [e] at z
  cases z
theorem qD(hU:∀s,s<3->0<U s):∀r,(∀k,k<r->List.range n∉(cc G so U n k).map (·.1))->∀w∈cc G so U n r,r<=w.1.length
 |0,_,w,_=>cm _
 |r+1,hn,w,hw=>by
  have ih:=qD hU r fun k hk=>hn k Jy;have hno:=hn r Jy;have key:∀(ws acc:List (List Nat×List (List Nat))),(∀w∈ws,Can n w.1/\w.1≠List.range n/\r<=w.1.length)->(∀w∈acc,r+1<=w.1.length)->∀w∈ws.foldl (fun acc w=>eh n acc w (c5 G so U n w.1)) acc,r+1<=w.1.length:=by
   intro ws
   induction ws with
   |nil=>intro acc _ h;exact h
   |cons v ws ihw=>
    intro acc h1 h2;refine ihw _ (fun x hx=>h1 x (zq6 _ hx)) ?_;obtain ⟨c1,c2,c3⟩:=h1 v Jz;have inner:∀(bs:List (List Nat)) (acc:List (List Nat×List (List Nat))),(∀b∈bs,b∈c5 G so U n v.1)->(∀w∈acc,r+1<=w.1.length)->∀w∈eh n acc v bs,r+1<=w.1.length:=by
     intro bs
     induction bs with
     |nil=>intro acc _ h;exact h
     |cons b bs ihb=>
      intro acc h3 h4;refine ihb _ (fun c hc=>h3 c (zq6 _ hc)) fun x hx=>?_;rcases jb hx with hx | rfl
      ·exact h4 x hx
      ·have hb:=h3 b Jz;have ne:=tm hU hb (c1.miss c2);have:=zq47.mpr ne;show r+1<=(cZ n v.1 b).length;rw [Ba c1 (j5 hU hb).sub];omega
    exact inner _ _ (fun _ h=>h) h2
  exact key _ _ (fun x hx=>zAB ((iT r).lay x hx).1.can (fun e=>hno (zq23.mpr (zn x hx e))) (ih x hx)) (fun _ h=>by cases h) w hw
theorem Cd(hU:∀s,s<3->0<U s)(hn:∀k,k<=r->List.range n∉(cc G so U n k).map (·.1)):r<n:=by obtain ⟨w,hw⟩:=Ak _ (uE (G:=G) (so:=so) (U:=U) (n:=n) hU r);have h1:=qD hU r (fun k hk=>hn k Jy) w hw;have h2:=((iT r).lay w hw).1.can.len_lt fun e=>hn r (zq0 _) (zq23.mpr (zn w hw e));omega
theorem j6{dn:List Nat}:∀(bts:List (List Nat)) (p:Nat),(bH G so U dn bts p).length<=2 * bts.length
 | [],_=>by simp [bH]
 |b::bts,p=>by
  have:=j6 (dn:=dn) bts p;have h1:(gY G so U dn b p).length<=2:=by
   unfold gY;rw [zq4];have a:(if bQ G so U dn b p=true then [b++[p]] else []).length<=1:=by split<;>simp
   have c:(if bQ G so U dn b p=false\/so p<3 then [b] else []).length<=1:=by split<;>simp
   omega
  unfold bH at *;rw [List.flatMap_cons,zq4,cJ];omega
theorem jZ{dn:List Nat}:∀(ms:List Nat)(bts:List (List Nat)),(ms.foldl (bH G so U dn) bts).length<=2 ^ ms.length * bts.length
 | [],bts=>by simp
 |p::ms,bts=>by
  have a:=jZ (dn:=dn) ms (bH G so U dn bts p);have b:=j6 (G:=G) (so:=so) (U:=U) (dn:=dn) bts p;rw [Aj,cJ,Ab]
  calc _<=_:=a
   _<=2 ^ ms.length * (2 * bts.length):=Nat.mul_le_mul_left _ b
   _=_:=by rw [Nat.mul_assoc]
def rY:List Nat->List (List Nat)
 | []=>[[]]
 |x::xs=>rY xs++(rY xs).map (x::·)
theorem qo:∀xs,(rY xs).length=2 ^ xs.length
 | []=>rfl
 |x::xs=>by rw [rY,zq4,zq1,qo xs,cJ,Ab];omega
theorem kg:∀{xs ys:List Nat},ys.Sublist xs->ys∈rY xs
 |_,_,.slnil=>by simp [rY]
 |_,_,.cons _ h=>jD _ (kg h)
 |_,_,.cons₂ _ h=>dC _ (zq23.mpr (zn _ (kg h) rfl))
theorem lY{α:Type}[DecidableEq α]:∀{L M:List α},L.Nodup->(∀x∈L,x∈M)->L.length<=M.length
 | [],M,_,_=>cm _
 |x::L,M,h,hm=>by rw [zq25] at h;have z:=lY (M:=M.erase x) h.2 fun y hy=>(List.mem_erase_of_ne (fun e=>h.1 (by rw [<- e];exact hy))).mpr (hm y (zq6 _ hy));rw [List.length_erase_of_mem (hm x Jz)] at z;have:=List.length_pos_of_mem (hm x Jz);rw [cJ];omega
theorem WOk.len{ws:List (List Nat×List (List Nat))}(h:WOk G so U n r ws):ws.length<=2 ^ n:=by
 have z:=lY (M:=rY (List.range n)) h.nodup fun k hk=>by obtain ⟨w,hw,e⟩:=zq23.mp hk;rw [<- e];exact kg (h.lay w hw).1.can
 rwa [zq1,qo,fc] at z
end
end GD
section
open PySem PySem.Spec PyProof.Rows
namespace L2
variable {d:Addr}
section
variable {prog:Program} {w:World} {A:Around} {E:Value->Shared->Prop} {s:Shared}
theorem pS{κ:Type}[DecidableEq κ]{knd:HeapKind prog w κ}{a:Addr}{xs:List (κ×Addr×Value)}{k:κ}{v:Value}{Q:Value->Shared->Prop}(hu:knd.room A)(hkey:knd.is s.heap k a)(hm:s.heap.DictOfH knd d xs)
 (h1:∀p,atKey xs k=some p->Q p.2 {s with toks:=s.toks+knd.draws k})
 (h2:atKey xs k=none->∀h',h'.DictOfH knd d (xs++[(k,a,v)])->Heap.SameBut d s.heap h'->Q v {s with heap:=h',toks:=s.toks+knd.draws k})
 (hsz:xs.length<=sizeLine):wpAny (model prog w) A (dictSetDefault d (.ref a) v) Q E s:=by
 obtain ⟨o,es,ep,ho,hc,hd,he,his,hn⟩:=hm;unfold dictSetDefault
 try with_reducible refine wpAny_holding ?_
 refine wpAny_bind (knd.pyHash hu hkey (wpAny_bind (wpAny_dictFind_heap (s:={s with toks:=s.toks+knd.draws k}) hu hkey ho hd he his hn ?_ ?_)))
 ·intro hno;have hat:=atKey_none_of_get hno;have hnot:=not_mem_keys_of_get hno;refine wpAny_bind (wpAny_rule (wpAny_bind (wpAny_updateDictKeys (hz:=by have e:=size_of_entries he;omega) (s:={s with toks:=s.toks+knd.draws k}) ho hd (wpAny_pure (h2 hat _ ⟨_,_,ep+1,uI _ ho (Obj.isFreed_of_dict (Obj.data_mapDictKeys hd _)),
   hc.mapDictKeys _,Obj.data_mapDictKeys hd _,by simp [he,entryOfKey],fun x hx=>?_,?_⟩ (Heap.SameBut.update ..))))))
  ·rcases zq11.mp hx with hx | hx
   ·exact knd.keeps (his x hx) ho hd (Heap.SameBut.update ..)
   ·rw [zq2.mp hx];exact knd.keeps hkey ho hd (Heap.SameBut.update ..)
  ·rw [cy,zq59];refine zAB hn Jz fun x hx y hy e=>?_;simp only [List.map_cons,List.map_nil,List.mem_singleton] at hy;subst hy;exact hnot (e ▸ hx)
 ·intro j p hj;have hat:=atKey_of_get hn hj;refine wpAny_bind (wpAny_dictEntries (s:={s with toks:=s.toks+knd.draws k}) ho hd ?_);rw [entry_at he j,hj];exact wpAny_bind (wpAny_rule (wpAny_pure (h1 p hat)))
theorem kX{κ:Type}[DecidableEq κ](knd:HeapKind prog w κ)(d a:Addr)(hd:(d==sysModules)=false)(dflt:Value):
  MeetsIn prog w (Builtin.«dict.setdefault» ⟨[.ref d,.ref a,dflt],[]⟩) (fun A R s=>knd.room A.in1/\∃k xs,knd.is s.heap k a/\s.heap.DictOfH knd d xs/\xs.length<=sizeLine/\
   (∀p,atKey xs k=some p->R (.ok (.ret p.2)) {s with toks:=s.toks+knd.draws k})/\
   (atKey xs k=none->∀h',h'.DictOfH knd d (xs++[(k,a,dflt)])->Heap.SameBut d s.heap h'->R (.ok (.ret dflt)) {s with heap:=h',toks:=s.toks+knd.draws k})):=
 .of_wp fun A R s ⟨hu,k,xs,hkey,hm,hz,h1,h2⟩=>by unfold Builtin.«dict.setdefault»;refine wpAny_bind ?_;unfold Builtin.Dict.keyAndDefault;refine wpAny_bind (wpAny_notOrdered_dict hm.typeIs ?_);show wpAny _ _ (pure (d,Value.ref a,some dflt)) _ _ s;refine wpAny_pure ?_;show wpAny _ _ (if (d==sysModules)=true then _ else (dictSetDefault d (.ref a) dflt >>= _)) _ _ s;rw [if_neg (by rw [hd];exact zq3)];exact wpAny_bind (pS (hsz:=hz) hu hkey hm (fun p hp=>wpAny_pure (zn p.2 rfl (h1 p hp))) fun hn h' hm' hs'=>wpAny_pure (zn dflt rfl (h2 hn h' hm' hs')))
theorem oz{od:Obj}{Q:Value->Shared->Prop}(hd:(d==sysModules)=false)(hod:s.heap.get? d=some od)(hx:od.ExactDict)
 (h:Q (.ref s.heap.objs.size) {s with heap:=s.heap.push {cls:=.type "dict_items",data:=.fields #[.ref d]}}):wpAny (model prog w) A (call (.builtin "dict.items") [.ref d]) Q E s:=by
 have hT:s.TypeIs (.ref d) "dict":=zn od hod hx.1
 have M:MeetsIn prog w (Builtin.«dict.items» ⟨[.ref d],[]⟩) (fun _ R s=>s.TypeIs (.ref d) "dict"/\R (.ok (.ret (.ref s.heap.objs.size))) {s with heap:=s.heap.push {cls:=.type "dict_items",data:=.fields #[.ref d]}}):=.of_wp fun A R s ⟨hT,h⟩=>by unfold Builtin.«dict.items»;refine wpAny_bind ?_;unfold Builtin.Dict.noArgs;refine wpAny_bind (wpAny_notOrdered_dict hT ?_);show wpAny _ _ (pure d) _ _ s;refine wpAny_pure ?_;show wpAny _ _ (Builtin.Dict.showsAll d >>= _) _ _ s;unfold Builtin.Dict.showsAll;rw [if_neg (by rw [hd];exact zq3)];refine wpAny_bind (wpAny_pure ?_);exact wpAny_bind (wpAny_newObj_type (wpAny_pure (zn _ rfl h)))
 exact call_meetsIn PySem.F.slot_dict_items hT PySem.F.entry_dict_items (PySem.F.args_dict_items_1 _) M ⟨hT,h⟩
theorem p9{v d:Addr}{od:Obj}{es:Array DictEntry}{ep:Nat}{Q:Value->Shared->Prop}(hv:s.heap.IsItemsView v d)(ho:s.heap.get? d=some od)(hd:od.data=.dict es ep)
  (hQ:Q (.ref s.heap.objs.size) {s with heap:=s.heap.push {cls:=.type "dict_itemiterator",data:=.fields #[.none,.bool false,.ref d,.int 0 0,.int es.size 0,.int ep 0,.none,.none]}}) :
  wpAny (model prog w) A (pyIter (.ref v)) Q E s:=by
 obtain ⟨ov,hov,hcv,hdv⟩:=id hv;refine wpAny_pyIter_slot hv.typeIs F.slot_dict_items_iter (wpAny_call_entry F.slot_dict_items_iter hv.typeIs F.entry_dict_items_iter ?_ (F.args_dict_items_iter_1 _));unfold Builtin.«dict_items.__iter__»;refine wpAny_bind (wpAny_pure (wpAny_bind ?_));unfold Builtin.Dict_items.dictOf;refine wpAny_bind (wpAny_field hov hdv (x:=.ref d) rfl (wpAny_pure (wpAny_bind ?_)));unfold Builtin.Dict_items.newIterator;refine wpAny_bind (wpAny_dictEntries ho hd (wpAny_bind (wpAny_dictEpoch ho hd ?_)));rw [show Builtin.Dict_items.ownsTuple "dict_itemiterator"=true by decide];simp only [if_true];refine wpAny_newObj_type (wpAny_pure (zn _ rfl (zAA ("dict_itemiterator") _ (zn _ (dA _ rfl) rfl) F.slot_dict_itemiterator_next.lookup ?_)))
  (by simp only [sizeOk,Builtin.Dict_items.ownedTupleFields,List.size_toArray,List.length_append,List.length_cons,List.length_nil,sizeLine_eq];omega)
 simpa [rawInt,Builtin.Dict_items.ownedTupleFields] using hQ
theorem pC{it d:Addr}{i ep:Nat}{od:Obj}{es:Array DictEntry}{en:DictEntry}{ok ov:Value}{Q:Option Value->Shared->Prop}(hit:IsItemIter s.heap it d i es.size ep ok ov)
  (hod:s.heap.get? d=some od) (hdd:od.data=.dict es ep) (hx:es[i]?=some en)
  (hQ:∀h',IsItemIterOut h' it d (i+1) es.size ep en.key en.val s.heap.objs.size->h'.get? s.heap.objs.size=some {cls:=.type "tuple",data:=.seq #[en.key,en.val]}->h'.objs.size=s.heap.objs.size+1->
   (∀b o,b≠it->s.heap.get? b=some o->h'.get? b=some o)->Q (some (.ref s.heap.objs.size)) {s with heap:=h'}) :
  wpAny (model prog w) A (pyNext (.ref it)) Q E s:=by
 obtain ⟨hp,g,dr,tk,os⟩:=s;have hT:Shared.TypeIs ⟨hp,g,dr,tk,os⟩ (.ref it) "dict_itemiterator":=zn _ hit rfl
 have hown:Builtin.Dict_items.ownsTuple "dict_itemiterator"=true:=by decide
 have hlt:i<es.size:=(Array.getElem?_eq_some_iff.mp hx).1;unfold pyNext;refine wpAny_bind (wpAny_attempt (wpAny_callSpecial?_slot (name:=Str.ofString "__next__") hT F.slot_dict_itemiterator_next (wpAny_call_entry F.slot_dict_itemiterator_next hT F.entry_dict_itemiterator_next ?_ (F.args_dict_itemiterator_next_1 _))));refine wpAny_bind (wpAny_pure (wpAny_bind (wpAny_bind ?_)))
 first | refine wpAny_bind (wpAny_typeNameOfWhole_itemiter hT (wpAny_pure ?_)) | refine wpAny_bind (wpAny_typeNameOf_itemiter hT (wpAny_pure ?_))
 refine wpAny_bind (wpAny_fieldsOf hit rfl ?_);simp only [hown,if_true];show wpAny _ _ (if (Value.ref d==Value.none)=true then _ else _) _ _ _;rw [if_neg (show ¬((Value.ref d==Value.none)=true) from zq3)];refine wpAny_bind (wpAny_pure (wpAny_bind (wpAny_dictEntries hod hdd ?_)));rw [if_neg Jz];refine wpAny_bind (wpAny_pure (wpAny_bind (wpAny_dictEpoch hod hdd ?_)));rw [if_neg Jz];refine wpAny_pure ?_;simp only [show ¬((i:Int)<0) from by omega,if_false,Int.toNat_natCast,hx];refine wpAny_bind ?_
 first | refine wpAny_bind (wpAny_typeNameOfWhole_itemiter hT (wpAny_pure ?_)) | refine wpAny_bind (wpAny_typeNameOf_itemiter hT (wpAny_pure ?_))
 refine wpAny_bind (wpAny_isOneOf_itemiter hT ?_);show wpAny _ _ (setField (.ref it) 3 (rawInt ((i:Int)+1)) >>= _) _ _ ⟨hp,g,dr,tk,os⟩;refine wpAny_bind (wpAny_setField_rec hit Jz fun h₁ he₁ hs₁=>?_);replace hs₁:Heap.SameBut it hp h₁:=hs₁;replace he₁:IsItemIter h₁ it d (i+1) es.size ep ok ov:=by
  have e:((i+1:Nat):Int)=(i:Int)+1:=by omega
  unfold IsItemIter;rw [e];simpa [rawInt] using he₁
 have hT₁:Shared.TypeIs ⟨h₁,g,dr,tk,os⟩ (.ref it) "dict_itemiterator":=zn _ he₁ rfl
 refine wpAny_bind (wpAny_holding (wpAny_bind (wpAny_isOneOf_itemiter hT₁ (wpAny_bind (wpAny_isOneOf_itemiter hT₁ ?_)))));show wpAny _ _ (Builtin.Dict_items.pairFromOwner (.ref it) 6 en.key en.val) _ _ ⟨h₁,g,dr,tk,os⟩;unfold Builtin.Dict_items.pairFromOwner;refine wpAny_bind (wpAny_newTuple ?_);have he₂:IsItemIter (h₁.push {cls:=.type "tuple",data:=.seq #[en.key,en.val]}) it d (i+1) es.size ep ok ov:=bX _ he₁;have hz₁:h₁.objs.size=hp.objs.size:=hs₁.1;have hil:it<hp.objs.size:=zq7 hit;have ht₂:(h₁.push {cls:=.type "tuple",data:=.seq #[en.key,en.val]}).get? hp.objs.size=some {cls:=.type "tuple",data:=.seq #[en.key,en.val]}:=by rw [<- hz₁];exact dA _ rfl
 have hz₂:(h₁.push {cls:=.type "tuple",data:=.seq #[en.key,en.val]}).objs.size=hp.objs.size+1:=by rw [lA,hz₁]
 have hk₂:∀b o,b≠it->hp.get? b=some o->(h₁.push {cls:=.type "tuple",data:=.seq #[en.key,en.val]}).get? b=some o:=fun b o hb e=>bX _ (hs₁.extBut b o hb e);generalize h₁.push {cls:=.type "tuple",data:=.seq #[en.key,en.val]}=h₂ at he₂ ht₂ hz₂ hk₂ ⊢;show wpAny _ _ (Builtin.Dict_items.ownedTupleIsFree (.ref it) >>= _) _ _ ⟨h₂,g,dr,tk,os⟩;rw [hz₁];clear he₁ hs₁ hT₁ hz₁ h₁;refine wpAny_bind ?_;unfold Builtin.Dict_items.ownedTupleIsFree;refine wpAny_bind (wpAny_field he₂ rfl (x:=.none) rfl (wpAny_pure ?_));simp only [if_true];refine wpAny_bind (wpAny_field he₂ rfl (x:=ok) rfl (wpAny_bind (wpAny_field he₂ rfl (x:=ov) rfl ?_)));refine wpAny_bind (wpAny_setField_rec he₂ Jz fun h₃ he₃ hs₃=>?_);replace hs₃:Heap.SameBut it h₂ h₃:=hs₃;replace he₃:IsItemIter h₃ it d (i+1) es.size ep en.key ov:=he₃;refine wpAny_bind (wpAny_setField_rec he₃ Jz fun h₄ he₄ hs₄=>?_);replace hs₄:Heap.SameBut it h₃ h₄:=hs₄;replace he₄:IsItemIter h₄ it d (i+1) es.size ep en.key en.val:=he₄;refine wpAny_bind (wpAny_setField_rec he₄ Jz fun h₅ he₅ hs₅=>?_);replace hs₅:Heap.SameBut it h₄ h₅:=hs₅;replace he₅:IsItemIterOut h₅ it d (i+1) es.size ep en.key en.val hp.objs.size:=he₅;refine wpAny_bind (wpAny_setField_rec he₅ Jz fun h₆ he₆ hs₆=>?_);replace hs₆:Heap.SameBut it h₅ h₆:=hs₆;replace he₆:IsItemIterOut h₆ it d (i+1) es.size ep en.key en.val hp.objs.size:=he₆;have kp:∀b o,b≠it->h₂.get? b=some o->h₆.get? b=some o:=fun b o hb e=>hs₆.extBut b o hb (hs₅.extBut b o hb (hs₄.extBut b o hb (hs₃.extBut b o hb e)));refine wpAny_bind (wpAny_letGo (wpAny_pure (wpAny_pure (zn _ rfl (wpAny_pure (hQ h₆ he₆ (kp _ _ (lu hil) ht₂) ?_ fun b o hb e=>kp b o hb (hk₂ b o hb e)))))));show h₆.objs.size=hp.objs.size+1;rw [hs₆.1,hs₅.1,hs₄.1,hs₃.1,hz₂]
theorem qW{it:Addr}{i ep:Nat}{od:Obj}{es:Array DictEntry}{ok ov:Value}{Q:Option Value->Shared->Prop}(hh:A.handled=none)(hit:IsItemIter s.heap it d i es.size ep ok ov)
 (hod:s.heap.get? d=some od) (hdd:od.data=.dict es ep) (hx:es.size<=i)
 (hQ:∀h',Heap.ExtBut it s.heap h'->Q none {s with heap:=h'}):wpAny (model prog w) A (pyNext (.ref it)) Q E s:=by
 have hT:s.TypeIs (.ref it) "dict_itemiterator":=zn _ hit rfl
 have hown:Builtin.Dict_items.ownsTuple "dict_itemiterator"=true:=by decide
 unfold pyNext;refine wpAny_bind (wpAny_attempt (wpAny_callSpecial?_slot (name:=Str.ofString "__next__") hT F.slot_dict_itemiterator_next (wpAny_call_entry F.slot_dict_itemiterator_next hT F.entry_dict_itemiterator_next ?_ (F.args_dict_itemiterator_next_1 _))));refine wpAny_bind (wpAny_pure (wpAny_bind (wpAny_bind ?_)))
 first | refine wpAny_bind (wpAny_typeNameOfWhole_itemiter hT (wpAny_pure ?_)) | refine wpAny_bind (wpAny_typeNameOf_itemiter hT (wpAny_pure ?_))
 refine wpAny_bind (wpAny_fieldsOf hit rfl ?_);simp only [hown,if_true];show wpAny _ _ (if (Value.ref d==Value.none)=true then _ else _) _ _ s;rw [if_neg (show ¬((Value.ref d==Value.none)=true) from zq3)];refine wpAny_bind (wpAny_pure (wpAny_bind (wpAny_dictEntries hod hdd ?_)));rw [if_neg Jz];refine wpAny_bind (wpAny_pure (wpAny_bind (wpAny_dictEpoch hod hdd ?_)));rw [if_neg Jz];refine wpAny_pure ?_;simp only [show ¬((i:Int)<0) from by omega,if_false,Int.toNat_natCast,Array.getElem?_eq_none hx];refine wpAny_bind ?_
 first | refine wpAny_bind (wpAny_typeNameOfWhole_itemiter hT (wpAny_pure ?_)) | refine wpAny_bind (wpAny_typeNameOf_itemiter hT (wpAny_pure ?_))
 show wpAny _ _ (setField (.ref it) 2 .none >>= _) _ _ s;refine wpAny_bind (wpAny_setField hit rfl Jz ?_);show wpAny _ _ (newExc (.type "StopIteration") [] >>= _) _ _ _;refine wpAny_bind ?_;simp only [newExc,newTuple];refine wpAny_bind (wpAny_newObj_type ?_ (by size_fits));refine wpAny_bind (m:=firstArgMember _ _) (wpAny_of_eq (a:=Value.none) (by first | rfl | (simp only [firstArgMember];rfl)) ?_);refine wpAny_newObj_type ?_ (by size_fits);simp only [raiseNew];refine wpAny_bind (wpAny_handled ?_);rw [show A.in1.handled=none from hh];refine wpAny_bind (wpAny_pure (wpAny_throw ?_));refine wpAny_bind (wpAny_isInstance (T:="StopIteration") (b:=true) ⟨_,dA _ rfl,rfl⟩ isSubtype_stop ?_);exact wpAny_pure (hQ _ (((Heap.SameBut.update ..).extBut.push _).push _))
end
end L2
namespace L2
variable {H:Hp} {Q:VK} {σ:St}
def mG(d:Addr)(o:Obj)(kvs:List (List Key×V)):It:=
  ⟨fun i H=>H d=some (.frz o (.dT kvs))/\i<kvs.length,
   fun i H x H'=>∃p k b v,x=.ref p/\H p=none/\H'=upd H p (.tup [.ref b,v])/\kvs[i]?=some (k,v)/\H b=some (.tup (k.map kV)),
   fun i H=>H d=some (.frz o (.dT kvs))/\kvs.length<=i⟩
theorem Paired.at{α β:Type}{F:α->β->Prop}:∀{l:List α} {m:List β} {i:Nat} {x:α},Paired F l m->l[i]?=some x->∃y,m[i]?=some y/\F x y
 |_,_,_,_,.nil,e=>by simp at e
 |_,_,0,_,.cons r _,e=>by simp at e;subst e;exact zn _ rfl r
 |_,_,i+1,x,.cons _ t,e=>by obtain ⟨u,h1,h2⟩:=Paired.at (i:=i) (x:=x) t (by simpa using e);exact zn u (by simpa using h1) h2
theorem xu{P:Program}{w:World}{H:Hp}{h:Heap}{d:Addr}{o:Obj}{kvs:List (List Key×V)}(ok:HOk P w H h)(e:H d=some (.frz o (.dT kvs))){es:Array DictEntry}{ep:Nat}(ho:o.data=.dict es ep):
  h.get? d=some o/\es.size=kvs.length/\∀(i:Nat)(k:List Key)(v:V),kvs[i]?=some (k,v)->∃(hs:Int)(b:Addr)(u:Value),es[i]?=some (⟨hs,.ref b,u⟩:DictEntry)/\H b=some (.tup (k.map kV))/\RelV v u:=by
 obtain ⟨e1,z,hd,xs,rel,o',es',ep',e2,ex,hdat,hes,hn⟩:=ok d _ e;rw [e1] at e2
 cases e2
 rw [ho] at hdat
 cases hdat
 refine zAB e1 ((size_of_entries hes).trans (Paired.length rel).symm) fun i k v hk=>?_;obtain ⟨⟨k',b,u⟩,hx,h1,h2,h3⟩:=Paired.at rel hk;refine zAN ((tupleKind (bC P w)).hash k') b u ?_ h2 h3;rw [entry_at hes i,hx];rfl
theorem qX:entryFor table "dict_itemiterator.__iter__"=some Builtin.«dict_keyiterator.__iter__»:=entryFor_alias (id':="dict_keyiterator.__iter__") Jw rfl Jv Jw
theorem vq{prog:Program}{w:World}{A:Around}{E:Value->Shared->Prop}{s:Shared}{it d:Addr}{i n ep:Nat}{ok ov:Value}{Q:Value->Shared->Prop}(he:IsItemIter s.heap it d i n ep ok ov)(h:Q (.ref it) s):wpAny (model prog w) A (pyIter (.ref it)) Q E s:=by
 have hT:s.TypeIs (.ref it) "dict_itemiterator":=zn _ he rfl
 refine wpAny_pyIter_slot hT F.slot_dict_itemiterator_iter (wpAny_call_entry F.slot_dict_itemiterator_iter hT qX ?_ (F.args_dict_itemiterator_iter_1 _));show wpAny _ _ (ret (.ref it)) _ _ s;exact wpAny_pure (zn _ rfl (zAA ("dict_itemiterator") _ hT F.slot_dict_itemiterator_next.lookup h))
theorem se{P:Program}{w:World}{K:W.Frag}{elts:List Expr}{k0:Nat}{pos0:Pos}(d it:Addr)(o:Obj){es:Array DictEntry}{ep:Nat}(ho:o.data=.dict es ep)(kvs:List (List Key×V)):
  kR P w K (.Tuple elts k0 pos0) (mG d o kvs) [it] it (fun i h=>∃ok ov,IsItemIter h it d i es.size ep ok ov) where
 mem:=by simp
 obj:=fun i h ⟨ok,ov,he⟩ b hb=>by
  have e:b=it:=by simpa using hb
  subst e;exact ⟨_,he,fun v z=>by
   have z':Data.fields _=Data.cell v:=z
   cases z'⟩
 keep:=fun i h h' ⟨ok,ov,he⟩ k=>zAJ ok ov (k it Jz _ he)
 item:=by
  intro X hP hw hK hc i pins s σ H E I hf st hg;subst hP hw hK;obtain ⟨ok,ov,he⟩:=st;obtain ⟨hg1,hi⟩:=hg;obtain ⟨hd,hsz,hat⟩:=xu I.hok hg1 ho;obtain ⟨⟨k,v⟩,hk⟩:∃p,kvs[i]?=some p:=⟨_,zq8 hi⟩
  obtain ⟨hs0,b,u,hen,hb,ru⟩:=hat i k v hk;obtain ⟨f0,f1,f2,f3,f4,f5⟩:=hf it Jz;refine pC he hd ho hen fun h1 ho1 hT hz1 hk1=>?_;refine zn _ rfl (wpAny_letOwnedTupleGo_items ho1 fun h2 he2 hs2=>?_);replace hs2:Heap.SameBut it h1 h2:=hs2;have hlt:it<s.heap.objs.size:=zq7 he;have hk2:∀b o,b≠it->s.heap.get? b=some o->h2.get? b=some o:=fun b o b1 q=>(hs2.2 b b1).trans (hk1 b o b1 q);have hT2:h2.get? s.heap.objs.size=some {cls:=.type "tuple",data:=.seq #[.ref b,u]}:=(hs2.2 _ (lu hlt)).trans hT;have hn:H s.heap.objs.size=none:=I.hok.fresh (zq0 _);have nE:∀b v,H b=some v->b≠it:=fun b v q z=>by rw [z,f0] at q;cases q
  have ok2:HOk X.prog X.w H h2:=fun b v q=>(I.hok b v q).stay (fun c v' hc r=>by
   rcases hc with z | z
   ·exact hk2 c v' (by rw [z];exact nE b v q) r
   ·exact hk2 c v' (nE c _ z) r) (fun _ r=>r) fun _ _ r=>r
  have ok3:HOk X.prog X.w (upd H s.heap.objs.size (.tup [.ref b,v])) h2:=fun c w' q=>by
   by_cases hb':c=s.heap.objs.size
   ·subst hb';rw [ac] at q
    cases q
    exact ⟨by show 2<=sizeLine;decide,zn ([.ref b,u]) (.cons rfl (.cons ru .nil)) (zAC _ hT2 rfl ⟨_,rfl⟩)⟩
   ·rw [ao hb'] at q;exact (ok2 c w' q).stay (fun c v' _ r=>r) (fun c r=>by rw [ao (am r hn)];exact r) fun c ys r=>by rw [ao (am r hn)];exact r
  have nlt:∀{b:Addr} {o:Obj},s.heap.get? b=some o->b≠s.heap.objs.size:=fun q=>cx (zq7 q);have I2:Inv X pins σ (upd H s.heap.objs.size (.tup [.ref b,v])) {s with heap:=h2,toks:=s.toks}:=
   I.step (g':=s.gens) (d':=s.drawn) (ch:=[it]) (fun b hb=>by rw [zq2.mp hb];exact zAG f3 f1 f4 f5)
    (fun b o _ _ hc q _=>hk2 b o (fun z=>hc (by simp [z])) q)
    (fun b o _ _ hc q _=>⟨o.slots,hk2 b o (fun z=>hc (by simp [z])) q⟩)
    (fun b o _ q n=>by rw [ao (nlt q)];exact n)
    (fun b o hc q=>⟨o,hk2 b o (fun z=>hc (by simp [z])) q⟩)
    (fun b ys q=>by rw [ao (am q hn)];exact q) (fun b o v q=>by rw [ao (am q hn)];exact q) (fun b ps q=>⟨#[],by rw [ao (am q hn),q];simp⟩)
    (fun m ⟨o,es,ep,hm,r⟩=>zAK o es ep (hk2 _ o (Ne.symm f1) hm) r) ok3 I.bare
  refine zAT (.ref s.heap.objs.size) _ I2 rfl (zAM _ k b v rfl hn rfl hk hb) (zAJ _ _ he2) fun c hc=>?_;rw [zq2.mp hc,ao (cx hlt)];exact f0
 done:=by intro X hP hw hK hc i pins s σ H E I hf st hg;subst hP hw hK;obtain ⟨ok,ov,he⟩:=st;obtain ⟨hg1,hi⟩:=hg;obtain ⟨hd,hsz,hat⟩:=xu I.hok hg1 ho;obtain ⟨f0,f1,f2,f3,f4,f5⟩:=hf it Jz;exact qW (I.ok.hd hc) he hd ho Jy fun h' eb=>⟨rfl,I.turned (t':=s.toks) (fun b o hb e=>eb b o hb e) f0 f1 f3 f4 f5⟩
 self:=fun _ _ _ _ _ ⟨_,_,he⟩ h=>vq he h
def mU(td:TE):TI:=fun σ H R=>td σ H fun x H1=>∃a kvs,x=.ref a/\H1 a=some (.dT kvs)/\∀o,R (mG a o kvs) (upd H1 a (.frz o (.dT kvs)))
theorem vR{X:Cx}{o:Expr}{td:TE}{apos pos pos0:Pos}{elts:List Expr}{k0:Nat}(ho:PE X o td)(hbase:attributeBase o "items" X.env (eval o X.env)=eval o X.env:=by rfl) (hline:(apos.endLine==pos.line)=true:=by rfl) :
  PI X (.Tuple elts k0 pos0) (.Call (.Attribute o "items" apos) [] [] pos) (mU td):=by
 intro pins s σ H R I h;refine wpAny_Call_method0_late hbase hline (thn (ho pins s σ H _ I h) fun v s1 hhx=>?_);obtain ⟨x,H1,I1,r1,a,kvs,ex,e,q1⟩:=hhx;subst ex
 cases r1
 obtain ⟨h1,h2⟩:=sk (T:="dict") I1 (show RelV (.ref a) (.ref a) from rfl) (.inr (.inr (.inl ⟨rfl,.inr ⟨kvs,e⟩⟩)));refine zBI ("dict") _ PySem.F.plainAttrs_dict PySem.F.slot_dict_items PySem.F.type_dict_items h1 h2 (Calls.callWith_builtin rfl (PySem.evalArgs_none ?_));have okd:=I1.hok a _ e;obtain ⟨z,hd,xs,rel,od,es,ep,g1,g2,g3,g4,g5⟩:=id okd;refine oz hd g1 g2 ?_;refine p9 (es:=es) (ep:=ep) (zAC _ (dA _ rfl) rfl rfl) (bX _ g1) g3 ?_;have I2:Inv X pins σ (upd H1 a (.frz od (.dT kvs))) {s1 with heap:=s1.heap,toks:=s1.toks}:=I1.write (x:=a) (e:=a) (by rw [e];exact True.intro) (.inl rfl) (fun b u _ q=>q) ⟨od,g1⟩ ⟨g1,okd.stay (fun _ _ _ q=>q) (fun b q=>by rw [ao (bw q e (fun z=>nomatch z))];exact q) fun b ys q=>by rw [ao (bw q e (fun z=>nomatch z))];exact q⟩
 have I3:=I2.kept (h':=s1.heap.push {cls:=.type "dict_items",data:=.fields #[.ref a]}) (t':=s1.toks) fun b o e=>bX _ e;refine zAW _ ([_]) _ _ _ rfl (I3.kept (t':=s1.toks) fun b o e=>bX _ e) (se a _ od g3 kvs) (zAJ _ _ (dA _ rfl)) (fun b hb=>?_) (q1 od);rw [zq2.mp hb];exact I3.fpOk (zq0 _) (I3.hok.fresh (zq0 _))
theorem sy{X:Cx}{o:Expr}{td:TE}{apos pos pos0:Pos}{elts:List Expr}{k0:Nat}(ho:XE X o td)(hbase:attributeBase o "items" X.env (eval o X.env)=eval o X.env:=by rfl) (hline:(apos.endLine==pos.line)=true:=by rfl) :
  XI X (.Tuple elts k0 pos0) (.Call (.Attribute o "items" apos) [] [] pos) (mU td):=⟨vR ho.h hbase hline⟩
theorem vV{td:TE}{R:It->Hp->Prop}:mU td σ H R=td σ H fun x H1=>∃a kvs,x=.ref a/\H1 a=some (.dT kvs)/\∀o,R (mG a o kvs) (upd H1 a (.frz o (.dT kvs))):=rfl
theorem xv{d:Addr}{o:Obj}{kvs:List (List Key×V)}{g:TG}{tb:TS}{D:dm}(Pv:Nat->St->Hp->Prop)(h0:Pv 0 σ H)(hl:∀i σ H,i<=kvs.length->Pv i σ H->H d=some (.frz o (.dT kvs)))
 (hs:∀(i:Nat)k v b σ H p,kvs[i]?=some (k,v)->H b=some (.tup (k.map kV))->H p=none->Pv i σ H->g (.ref p) σ (upd H p (.tup [.ref b,v])) fun σ2 H2=>tb {D with nx:=Pv (i+1),ct:=Pv (i+1),bk:=D.nx} σ2 H2) (hd:∀σ H,Pv kvs.length σ H->D.nx σ H):nW (mG d o kvs) g tb D σ H:=by
 refine zn (fun i m σ H=>m=kvs.length-i/\i<=kvs.length/\Pv i σ H) (zAC kvs.length Jz (cm _) h0) ?_;rintro i m σ H ⟨rfl,hi,p⟩;have q:=hl i σ H hi p
 by_cases hlt:i<kvs.length
 ·refine .inr ⟨⟨q,hlt⟩,zn (Pv (i+1)) (fun σ' H' p'=>zAF (kvs.length-(i+1)) Jy rfl hlt p') fun x H' y=>?_⟩;obtain ⟨pp,k,b,v,ex,hn,eH,hk,hb⟩:=y;subst ex eH;exact hs i k v b σ H pp hk hb hn p
 ·obtain rfl:i=kvs.length:=by omega
  exact .inl ⟨⟨q,zq0 _⟩,hd σ H p⟩
section
variable {X:Cx}
def CC:V->List V->Hp->VK->Prop:=fun x vs H Q=>∃(l b:Addr)(kvs:List (List Key×V)) (k:List Key) (v:V),x=.ref l/\vs=[.ref b,v]/\H l=some (.dT kvs)/\H b=some (.tup (k.map kV))/\kvs.length<sizeLine/\
 (∀y,bE kvs k=some y->Q y H)/\(bE kvs k=none->Q v (upd H l (.dT (kvs++[(k,v)]))))
theorem kY(hu:X.A.units+1<cLine):MtM X "dict.setdefault" CC:=by
 intro pins s σ H x vs u us Q I rx rv h;obtain ⟨l,b,kvs,k,v,rfl,rfl,hl,hb,hz,q1,q2⟩:=h
 cases rx
 obtain ⟨u1,u2,rfl,r1,r2⟩:=zN rv
 cases r1
 obtain ⟨z,hd,xs,rel,dd⟩:=xo I.hok hl;have hlen:=Paired.length rel;refine call_meetsIn PySem.F.slot_dict_setdefault dd.typeIs PySem.F.entry_dict_setdefault (PySem.F.args_dict_setdefault_3 _ _ _) (kX (tupleKind (bC X.prog X.w)) l b hd u2) ⟨tupleKind_room_in1 hu,zAT k xs (j7 I.hok hb) dd Jy (fun p hp=>?_) fun hn h' dd' hs=>?_⟩
 ·have rk:=rel.val k;rw [hp] at rk
  cases hv:bE kvs k with
  |none=>rw [hv] at rk;exact rk.elim
  |some y=>rw [hv] at rk;exact zAA y H (I.tok _) rk (q1 y hv)
 ·have rk:=rel.val k;rw [hn] at rk;have hv:bE kvs k=none:=by
   cases hv:bE kvs k with
   |none=>rfl
   |some y=>rw [hv] at rk;exact rk.elim
  obtain ⟨q,es,ep,hq,h2,h3,h4,_,h5⟩:=dd';refine zAA v _ (iz (ob:=.dT (kvs++[(k,v)])) I (by rw [hl];exact True.intro) hs ⟨q,hq⟩ (zAB (by rw [zq4,c9];omega) hd (zn _ (KT.keeps (Paired.snoc rel (zAB rfl hb r2)) fun c ys ec=>?_) (zAL q es ep hq h2 h3 h4 h5)))) r2 (q2 hv);rw [ao (bw ec hl (fun z=>nomatch z))];exact ec
theorem FH{l b:Addr}{v:V}:CC (.ref l) [.ref b,v] H Q=∃(kvs:List (List Key×V)) (k:List Key),H l=some (.dT kvs)/\H b=some (.tup (k.map kV))/\kvs.length<sizeLine/\
  (∀y,bE kvs k=some y->Q y H)/\(bE kvs k=none->Q v (upd H l (.dT (kvs++[(k,v)])))):=propext ⟨by rintro ⟨_,_,kvs,k,_,e1,e2,q⟩;cases e1;cases e2;exact zAJ kvs k q,by rintro ⟨kvs,k,q⟩;exact zBD l b kvs k v rfl rfl q⟩
def uB(tk tv:TE):TE:=fun σ H Q=>∀p,H p=none->tk σ (upd H p (.dT [])) fun x H1=>tv σ H1 fun y H2=>H2 p=some (.dT [])/\∃(b:Addr)(k:List Key),x=.ref b/\H2 b=some (.tup (k.map kV))/\Q (.ref p) (upd H2 p (.dT [(k,y)]))
theorem su{pos:Pos}{ke ve:Expr}{tk tv:TE}(hu:X.A.units+1<cLine)(hk:XE X ke tk)(hv:XE X ve tv):XE X (.Dict [some ke] [ve] pos) (uB tk tv):=⟨by
 intro pins s σ H Q I q;have hn:=I.hok.fresh (zq0 s.heap.objs.size);have I1:=I.laid (a:=s.heap.objs.size) (o:=.dT []) (h':=s.heap.push {cls:=.type "dict",data:=.dict #[]}) (t':=s.toks) (fun _ _ q=>bX _ q) (zq0 _) (oU s.heap I.big);refine wpAny_Dict_any rfl rfl Jz Jz ?_;refine pairTrees_cons_walk (thn (hk.h pins _ σ _ _ I1 (q _ hn)) fun u s1 ⟨x,H1,J1,rx,q1⟩=>thn (hv.h pins s1 σ H1 _ J1 q1) fun w2 s2 ⟨y,H2,J2,ry,q2⟩=>pairTrees_nil_walk ?_);obtain ⟨e,b,k,ex,hb,q3⟩:=q2;subst ex
 cases rx
 unfold storeAll;rw [List.forIn_cons];obtain ⟨z,hd,xs,rel,dd⟩:=xo J2.hok e
 cases rel
 refine wpAny_bind (wpAny_bind (wpAny_dictSet_heap (hsz:=cm _) (show X.A.units<cLine by omega) (j7 J2.hok hb) dd fun h' dd' hs=>wpAny_pure ?_));dsimp only;rw [List.forIn_nil];refine wpAny_pure (zAA (.ref s.heap.objs.size) _ ?_ rfl q3);obtain ⟨q,es,ep,hq,h2,h3,h4,_,h5⟩:=dd';refine iz J2 (by rw [e];exact True.intro) hs ⟨q,hq⟩ (zAB (by show 1<=sizeLine;decide) hd (zn _ (.cons (zAB rfl ?_ ry) .nil) (zAL q es ep hq h2 h3 h4 h5)));show upd H2 s.heap.objs.size _ b=_;rw [ao (bw hb e (fun z=>nomatch z))];exact hb⟩
theorem yK{tk tv:TE}:uB tk tv σ H Q=∀p,H p=none->tk σ (upd H p (.dT [])) fun x H1=>tv σ H1 fun y H2=>H2 p=some (.dT [])/\∃(b:Addr)(k:List Key),x=.ref b/\H2 b=some (.tup (k.map kV))/\Q (.ref p) (upd H2 p (.dT [(k,y)])):=rfl
theorem wF{pos:Pos}:XE X (.Dict [] [] pos) zA:=⟨fun pins s σ H Q I h=>wpAny_Dict_empty (zAA (.ref s.heap.objs.size) _ (I.laid (a:=s.heap.objs.size) (o:=.dT []) (t':=s.toks) (fun _ _ q=>bX _ q) (zq0 _) (oU s.heap I.big)) rfl (h _ (I.hok.fresh (zq0 _))))⟩
theorem BN:zA σ H Q=∀p,H p=none->Q (.ref p) (upd H p (.dT [])):=rfl
end
end L2
namespace L2
section
variable {prog:Program} {w:World} {A:Around} {E:Value->Shared->Prop} {s:Shared}
theorem oI{Q:List Value->Shared->Prop}{r:Addr}{a b c:Int}{t u v:Tok}{n:Nat}(hh:A.handled=none)(hr:IsRange s.heap r a b c t u v)(hsmall:Builtin.Range.small a b c=true)(hn:Builtin.Range.rangeSize a b c=n)(hlen:n<=2 ^ 24)
  (hQ:∀h' tk acc,(∀b o,s.heap.get? b=some o->h'.get? b=some o)->ItemsOf (fun i v=>∃t,v=.int (a+i * c) t) acc n->Q acc.toList {s with heap:=h',toks:=tk}):wpAny (model prog w) A (collect (.ref r)) Q E s:=by
 unfold collect;refine wpAny_bind (wpAny_runValue (codeAny_builtin F.entry_proto_collect ?_));rw [Around.under_plainId F.plain_proto_collect _];show wpAny _ A.in1 (newList [] >>= fun l=>again (.builtin "list.__iadd__" ⟨[l,.ref r],[]⟩)) _ _ s;refine wpAny_bind (wpAny_newObj_type ?_);refine wpAny_pure ⟨plainId_quiet F.plain_list_iadd _,codeAny_builtin F.entry_list_iadd ?_⟩;rw [Around.under_plainId F.plain_list_iadd _];show wpAny _ A.in1 (Builtin.List.listExtendWith (.ref s.heap.objs.size) (.ref r) (.ref s.heap.objs.size)) _ _ _;have hS:(s.heap.push {cls:=.type "list",data:=.seq ([]:List Value).toArray}).get? s.heap.objs.size=some {cls:=.type "list",data:=.seq #[] 0}:=dA _ rfl;refine wpAny_mono (wpAny_extend_range (A:=A) (s:={s with heap:=s.heap.push {cls:=.type "list",data:=.seq ([]:List Value).toArray}}) (R:=fun r' s'=>∃h' tk acc c',r'=.ok (.ret (.ref s.heap.objs.size))/\s'={s with heap:=h',toks:=tk}/\(∀b o,s.heap.get? b=some o->h'.get? b=some o)/\
   h'.get? s.heap.objs.size=some {cls:=.type "list",dict:=none,data:=.seq acc c',slots:=#[]}/\ItemsOf (fun i v=>∃t,v=.int (a+i * c) t) acc n) hh (bX _ hr) hsmall hn hlen _ _ _ hS
  fun h' tk acc c' hk hS' hacc=>zAM h' tk acc c' rfl rfl (fun b o e=>hk b o (cx (zq7 e)) (bX _ e)) hS' hacc) (fun fin s' h=>?_) (fun e s' h=>?_)
 ·have fin':∀s' r',(∃h' tk acc c',r'=(Except.ok (.ret (.ref s.heap.objs.size)):Result)/\s'={s with heap:=h',toks:=tk}/\(∀b o,s.heap.get? b=some o->h'.get? b=some o)/\
   h'.get? s.heap.objs.size=some {cls:=.type "list",dict:=none,data:=.seq acc c',slots:=#[]}/\ItemsOf (fun i v=>∃t,v=.int (a+i * c) t) acc n)->wpAny (model prog w) A (match Value.ref s.heap.objs.size with
   |Value.ref a=>do
    match (<- load a).data with
     |Data.seq xs _=>pure xs.toList
     |_=>unsupported "internal:collect"
   |_=>unsupported "internal:collect") Q E s':=by
   rintro s' r' ⟨h',tk,acc,c',_,rfl,hk,hS',hacc⟩;show wpAny _ A (load s.heap.objs.size >>= _) _ _ _;refine wpAny_bind (wpAny_load hS' ?_);exact wpAny_pure (hQ h' tk acc hk hacc)
  cases fin with
  |done f=>
   obtain ⟨h',tk,acc,c',e,r⟩:=id h
   cases e
   exact fin' _ _ h
  |again c'=>exact ⟨h.1,codeAny_mono h.2 fun r s'' hr=>by obtain ⟨h',tk,acc,c',e,r⟩:=id hr;subst e;exact fin' _ _ hr⟩
 ·obtain ⟨_,_,_,_,e,_⟩:=h
  cases e
theorem jx(r:Addr)(n:Nat)(hlen:n<=1000):
  Meets (Builtin.«tuple.__new__» ⟨[.type "tuple",.ref r],[]⟩)
   (fun A R s=>A.handled=none/\(∃t u v,IsRange s.heap r 0 n 1 t u v)/\∀(h':Heap)(tk:Nat)(acc:Array Value),(∀b o,s.heap.get? b=some o->h'.get? b=some o)->ItemsOf (fun i v=>∃t,v=.int (0+i * 1) t) acc n->
    R (.ok (.ret (.ref h'.objs.size))) {s with heap:=h'.push {cls:=.type "tuple",data:=.seq acc},toks:=tk}):=
 .of_wp fun prog w A R s h=>by
  obtain ⟨hh,⟨t,u,v,hr⟩,h⟩:=h;have hsub:=sub_tuple_self;have hinit:=init_tuple_lookup;have hmh:=madeHere_tuple;have hT:s.TypeIs (.ref r) "range":=zn _ hr rfl
  have hh1:A.in1.handled=none:=hh;have hsm:Builtin.Range.small 0 n 1=true:=small_one Jy Jy Jy Jy;have hsz:Builtin.Range.rangeSize 0 n 1=n:=by rw [rangeSize_one];split<;>omega +splitNatSub
  wp_walk using AutoSeq1.wpAny_loadPart' hr,wpAny_typeOf hT,oI hh1 hr hsm hsz (cL hlen Jx)
  intro h' tk acc hk hacc;show wpAny _ _ (Builtin.Tuple.tupleExact acc.toList.toArray >>= fun v=>ret v) _ _ _;unfold Builtin.Tuple.tupleExact;refine wpAny_bind (wpAny_newObj_type ?_ (show acc.toList.toArray.size<=sizeLine by simp only [Array.toArray_toList];rw [hacc.1,sizeLine_eq];omega));refine wpAny_pure (zn _ rfl ?_);have e:acc.toList.toArray=acc:=by simp
  rw [e];exact h h' tk acc hk hacc
theorem jQ{r:Addr}{n:Nat}{t u v:Tok}{Q:Value->Shared->Prop}(hh:A.handled=none)(hlen:n<=1000)(hr:IsRange s.heap r 0 n 1 t u v)
  (h:∀(h':Heap)(tk:Nat)(acc:Array Value),(∀b o,s.heap.get? b=some o->h'.get? b=some o)->ItemsOf (fun i v=>∃t,v=.int (0+i * 1) t) acc n->Q (.ref h'.objs.size) {s with heap:=h'.push {cls:=.type "tuple",data:=.seq acc},toks:=tk}) :
  wpAny (model prog w) A (call (.type "tuple") [.ref r]) Q E s:=
 callType_new F.called_tuple Jx (F.typeCall_tuple_1 _) (F.newCall_tuple_1 _) (fun obj=>F.args_object_init_2 obj _) F.entry_tuple_new
  (jx r n hlen) (zAB hh (zAH t u v hr) fun h' tk acc hk hacc=>⟨zn _ (dA _ rfl) rfl,h h' tk acc hk hacc⟩)
end
section
variable {X:Cx}
def nH(ta:TA):TE:=fun σ H Q=>ta σ H fun vs H1=>∃n:Nat,vs=[.int n]/\n<=1000/\∀l,H1 l=none->Q (.ref l) (upd H1 l (.tup ((List.range n).map fun i:Nat=>V.int i)))
theorem vQ{a:Expr}{ta:TA}{p p2 pos pos2:Pos}(hc:X.calm=true)(hm:X.mg "tuple"=none) (hm2:X.mg "range"=none) (ha:PA X [a] ta) (hg:Gl X "tuple") (hg2:Gl X "range") (hs:starEach [a] X.env=[(false,eval a X.env)]:=by rfl)
  (hs2:starEach [.Call (.Name "range" p2) [a] [] pos2] X.env=[(false,eval (.Call (.Name "range" p2) [a] [] pos2) X.env)]:=by rfl) :
  PE X (.Call (.Name "tuple" p) [.Call (.Name "range" p2) [a] [] pos2] [] pos) (nH ta):=by
 intro pins s σ H Q I h;refine Call_ (dZ I hg hm boot_tuple (PyProof.Rows.callWith_type1 ?_ hs2 rfl));rw [hs2];show wpAny _ _ (spliced ((false,eval (.Call (.Name "range" p2) [a] [] pos2) X.env)::[])) _ _ s;refine Calls.spliced_cons (Call_ (dZ I hg2 hm2 boot_range (PyProof.Rows.callWith_type1 (thn (ha pos2 pins s σ H _ I h) fun us s1 hhx=>?_) hs rfl)));obtain ⟨vs,H1,I1,r1,q1⟩:=hhx;obtain ⟨n,e,hn,q⟩:=q1;subst e
 cases r1 with
 |cons r rr=>
  cases rr
  obtain ⟨t,rfl⟩:=r;refine call_range_1 (Calls.spliced_nil ?_);refine jQ (n:=n) (I.ok.hd hc) hn (IsRange.new ..) fun h' tk acc hk hacc=>?_;have kp:∀b u,s1.heap.get? b=some u->h'.get? b=some u:=fun b u e=>hk b u (bX _ e);have I2:Inv X pins σ H1 {s1 with heap:=h',toks:=tk}:=I1.kept kp;refine zAA (.ref h'.objs.size) _ (I2.laid (t':=tk) (fun b u e=>bX _ e) (zq0 _) (show ObjOk X.prog X.w _ _ _ (.tup ((List.range n).map fun i:Nat=>V.int i)) from ⟨by rw [zq1,fc,sizeLine_eq];omega,zn acc.toList (vp hacc) ?_⟩)) rfl (q _ (I2.hok.fresh (zq0 _)));have e:=IsTup.new h' acc;simpa using e
theorem sv{a:Expr}{ta:TA}{p p2 pos pos2:Pos}(hc:X.calm=true)(hm:X.mg "tuple"=none) (hm2:X.mg "range"=none) (ha:XA X [a] ta) (hg:Gl X "tuple") (hg2:Gl X "range") (hs:starEach [a] X.env=[(false,eval a X.env)]:=by rfl)
  (hs2:starEach [.Call (.Name "range" p2) [a] [] pos2] X.env=[(false,eval (.Call (.Name "range" p2) [a] [] pos2) X.env)]:=by rfl) :
  XE X (.Call (.Name "tuple" p) [.Call (.Name "range" p2) [a] [] pos2] [] pos) (nH ta):=⟨vQ hc hm hm2 ha.h hg hg2 hs hs2⟩
theorem z7{ta:TA}{σ:St}{H:Hp}{Q:VK}:nH ta σ H Q=ta σ H fun vs H1=>∃n:Nat,vs=[.int n]/\n<=1000/\∀l,H1 l=none->Q (.ref l) (upd H1 l (.tup ((List.range n).map fun i:Nat=>V.int i))):=rfl
end
section
variable {prog:Program} {w:World} {A:Around} {E:Value->Shared->Prop} {s:Shared} {l I S:Addr} {vs:List Value} {ln:Nat->Nat} {dv:Value} {R:Result->Shared->Prop}
end
section
variable {X:Cx}
end
end L2
end
namespace GD
section
variable {G:Nat->Nat->Option Int} {so:Nat->Nat} {U:Nat->Int} {n:Nat}
end
end GD
section
open PySem PySem.Spec PyProof.Rows
namespace L2
section
variable {X:Cx}
end
end L2
namespace L2
def Cq(d:Addr)(o:Obj)(kvs:List (Key×V)):It:=
 ⟨fun i H=>H d=some (.frz o (.dK kvs))/\i<kvs.length,fun i H x H'=>H'=H/\∃k v,kvs[i]?=some (k,v)/\x=kV k,fun i H=>H d=some (.frz o (.dK kvs))/\kvs.length<=i⟩
def GY(td:TE):TI:=fun σ H R=>td σ H fun x H1=>∃a kvs,x=.ref a/\H1 a=some (.dK kvs)/\∀o,R (Cq a o kvs) (upd H1 a (.frz o (.dK kvs)))
theorem BR{td:TE}{σ:St}{H:Hp}{R:It->Hp->Prop}:GY td σ H R=td σ H fun x H1=>∃a kvs,x=.ref a/\H1 a=some (.dK kvs)/\∀o,R (Cq a o kvs) (upd H1 a (.frz o (.dK kvs))):=rfl
end L2
namespace L2
def Itz(K:W.Frag)(a b:Addr):It:=
  ⟨fun i H=>∃xs ys x y,SqL K H a xs/\SqL K H b ys/\xs[i]?=some x/\ys[i]?=some y,
   fun i H z H'=>∃p x y,z=.ref p/\H p=none/\H'=upd H p (.tup [x,y])/\(∀xs,SqL K H a xs->xs[i]?=some x)/\∀ys,SqL K H b ys->ys[i]?=some y,
   fun i H=>∃xs ys,SqL K H a xs/\SqL K H b ys/\(xs.length<=i\/ys.length<=i)⟩
def GM(z ti to i1 i2 a b:Addr)(i:Nat)(h:Heap):Prop:=IsZip h z ti to .none/\IsPair h ti (.ref i1) (.ref i2)/\(∃u v,IsPair h to u v)/\h.IsListIter i1 a i/\h.IsListIter i2 b i
theorem zJ{P:Program}{w:World}{K:W.Frag}{elts:List Expr}{k0:Nat}{pos0:Pos}{z ti to i1 i2 a b:Addr}(D:ZipApart z ti to i1 i2 a b):
  kR P w K (.Tuple elts k0 pos0) (Itz K a b) [z,ti,to,i1,i2] z (GM z ti to i1 i2 a b) where
 mem:=by simp
 obj:=fun i h ⟨h1,h2,⟨u,v,h3⟩,h4,h5⟩ c hc=>by
  simp only [List.mem_cons,List.not_mem_nil,or_false] at hc;rcases hc with rfl | rfl | rfl | rfl | rfl
  ·exact zn _ h1 fun v e=>by cases (show Data.fields _=Data.cell v from e)
  ·exact zn _ h2 fun v e=>by cases (show Data.seq _ _=Data.cell v from e)
  ·exact zn _ h3 fun v e=>by cases (show Data.seq _ _=Data.cell v from e)
  ·obtain ⟨o,q,_,d⟩:=h4;exact zn o q fun v e=>by rw [d] at e;cases e
  ·obtain ⟨o,q,_,d⟩:=h5;exact zn o q fun v e=>by rw [d] at e;cases e
 keep:=fun i h h' ⟨h1,h2,⟨u,v,h3⟩,h4,h5⟩ k=>zAI (k z Jz _ h1) (k ti Jz _ h2) (zAJ u v (k to Jz _ h3)) (h4.at fun o q=>k i1 Jz o q) (h5.at fun o q=>k i2 Jz o q)
 item:=by
  intro X hP hw hK hc i pins s σ H E I hf st hg;subst hP hw hK;obtain ⟨xs,ys,x,y,hqx,hqy,hx,hy⟩:=hg;obtain ⟨its,rv,p,hzz⟩:=I.list hqx;obtain ⟨ots,rw',p',hzz'⟩:=I.list hqy;obtain ⟨u,hu,ru⟩:=rv.get hx;obtain ⟨v,hv,rv'⟩:=rw'.get hy;obtain ⟨hz,hti,⟨oa,ob,hto⟩,hi1,hi2⟩:=st;have hf0:∀c∈[z,ti,to,i1,i2],H c=none:=fun c hc=>(hf c hc).1;refine wpAny_pyNext_zip_item D hz hti hto hi1 hi2 p.isList p'.isList (x:=u) (y:=v) (by simpa using hu) (by simpa using hv) fun h1 z1 t1 a1 a2 t2 hsz hk=>?_;refine zn _ rfl (wpAny_letOwnedTupleGo_zip z1 fun h2 z2 hs2=>?_);replace hs2:Heap.SameBut z h1 h2:=hs2;have zlt:z<s.heap.objs.size:=zq7 hz;have hk2:∀c o,c≠z->c≠to->c≠i1->c≠i2->s.heap.get? c=some o->h2.get? c=some o:=fun c o c1 c2 c3 c4 q=>(hs2.2 c c1).trans (hk c o c1 c2 c3 c4 q);have hT2:IsPair h2 s.heap.objs.size u v:=(hs2.2 _ (lu zlt)).trans t2;have hn:H s.heap.objs.size=none:=I.hok.fresh (zq0 _);have nF:∀c o,H c=some o->c≠z/\c≠to/\c≠i1/\c≠i2:=fun c o q=>zAG (fun e=>(by rw [e,hf0 z Jz] at q;cases q)) (fun e=>(by rw [e,hf0 to Jz] at q;cases q)) (fun e=>(by rw [e,hf0 i1 Jz] at q;cases q)) fun e=>(by rw [e,hf0 i2 Jz] at q;cases q)
  have kp:∀c o o',H c=some o->s.heap.get? c=some o'->h2.get? c=some o':=fun c o o' q r=>let ⟨n1,n2,n3,n4⟩:=nF c o q;hk2 c o' n1 n2 n3 n4 r;have ok2:HOk X.prog X.w H h2:=fun c o q=>(I.hok c o q).stay (fun d v' hd r=>by
   rcases hd with e | e
   ·rw [e] at r ⊢;exact kp c o v' q r
   ·exact kp d _ v' e r) (fun _ r=>r) fun _ _ r=>r
  have ok3:HOk X.prog X.w (upd H s.heap.objs.size (.tup [x,y])) h2:=fun c o q=>by
   by_cases hb:c=s.heap.objs.size
   ·subst hb;rw [ac] at q
    cases q
    exact ⟨by show 2<=sizeLine;decide,zn ([u,v]) (.cons ru (.cons rv' .nil)) (zAC _ hT2 rfl ⟨_,rfl⟩)⟩
   ·rw [ao hb] at q;exact (ok2 c o q).stay (fun d v' _ r=>r) (fun d r=>by rw [ao (am r hn)];exact r) fun d zs r=>by rw [ao (am r hn)];exact r
  have nlt:∀{c:Addr} {o:Obj},s.heap.get? c=some o->c≠s.heap.objs.size:=fun q=>cx (zq7 q);have lg:∀c,c∉[z,ti,to,i1,i2]->c≠z/\c≠to/\c≠i1/\c≠i2:=fun c hc=>by simp only [List.mem_cons,List.not_mem_nil,or_false,not_or] at hc;exact zAG hc.1 hc.2.2.1 hc.2.2.2.1 hc.2.2.2.2
  have I2:Inv X pins σ (upd H s.heap.objs.size (.tup [x,y])) {s with heap:=h2,toks:=s.toks}:=
   I.step (g':=s.gens) (d':=s.drawn) (ch:=[z,ti,to,i1,i2]) (fun c hc=>let ⟨_,f1,_,f3,f4,f5⟩:=hf c hc;(zAG f3 f1 f4 f5))
    (fun c o _ _ hc q _=>let ⟨n1,n2,n3,n4⟩:=lg c hc;hk2 c o n1 n2 n3 n4 q)
    (fun c o _ _ hc q _=>let ⟨n1,n2,n3,n4⟩:=lg c hc;⟨o.slots,hk2 c o n1 n2 n3 n4 q⟩)
    (fun c o _ q n=>by rw [ao (nlt q)];exact n)
    (fun c o hc q=>let ⟨n1,n2,n3,n4⟩:=lg c hc;⟨o,hk2 c o n1 n2 n3 n4 q⟩)
    (fun c zs q=>by rw [ao (am q hn)];exact q) (fun c o v q=>by rw [ao (am q hn)];exact q) (fun c ps q=>⟨#[],by rw [ao (am q hn),q];simp⟩)
    (fun m ⟨o,es,ep,hm,r⟩=>zAK o es ep (hk2 _ o (hf z Jz).2.1.symm (hf to Jz).2.1.symm (hf i1 Jz).2.1.symm (hf i2 Jz).2.1.symm hm) r) ok3 I.bare
  refine ⟨.ref s.heap.objs.size,_,I2,rfl,zAL _ x y rfl hn rfl (fun zs hz'=>by rw [I.list_inj hz' hqx];exact hx) fun zs hz'=>by rw [I.list_inj hz' hqy];exact hy,
   (zAI z2 ((hs2.2 ti D.TIz).trans (hk ti _ D.TIz D.TITO D.TIi1 D.TIi2 hti)) (zAJ u v ((hs2.2 to D.TOz).trans t1)) (a1.at fun o q=>(hs2.2 i1 D.i1z).trans q) (a2.at fun o q=>(hs2.2 i2 D.i2z).trans q)),fun c hc=>?_⟩
  have hcl:c≠s.heap.objs.size:=by
   simp only [List.mem_cons,List.not_mem_nil,or_false] at hc;rcases hc with e | e | e | e | e
   ·rw [e];exact nlt hz
   ·rw [e];exact nlt hti
   ·rw [e];exact nlt hto
   ·rw [e];obtain ⟨o,q,_⟩:=hi1;exact nlt q
   ·rw [e];obtain ⟨o,q,_⟩:=hi2;exact nlt q
  rw [ao hcl];exact hf0 c hc
 done:=by
  intro X hP hw hK hc i pins s σ H E I hf st hg;subst hP hw hK;obtain ⟨xs,ys,hqx,hqy,hend⟩:=hg;obtain ⟨its,rv,p,_⟩:=I.list hqx;obtain ⟨ots,rw',p',_⟩:=I.list hqy;have hl1:=rv.length;have hl2:=rw'.length;obtain ⟨hz,hti,⟨oa,ob,hto⟩,hi1,hi2⟩:=st;have hf0:∀c∈[z,ti,to,i1,i2],H c=none:=fun c hc=>(hf c hc).1;refine wpAny_pyNext_zip_end (I.ok.hd hc) D hz hti hto hi1 hi2 p.isList p'.isList (hend.imp (fun h=>by simp;omega) fun h=>by simp;omega) fun h' hk=>⟨rfl,?_⟩
  have lg:∀c,c∉[z,ti,to,i1,i2]->c≠z/\c≠to/\c≠i1/\c≠i2:=fun c hc=>by simp only [List.mem_cons,List.not_mem_nil,or_false,not_or] at hc;exact zAG hc.1 hc.2.2.1 hc.2.2.2.1 hc.2.2.2.2
  have kp:∀c o o',H c=some o->s.heap.get? c=some o'->h'.get? c=some o':=fun c o o' q r=>hk c o' (fun e=>by rw [e,hf0 z Jz] at q;cases q) (fun e=>by rw [e,hf0 to Jz] at q;cases q) (fun e=>by rw [e,hf0 i1 Jz] at q;cases q) (fun e=>by rw [e,hf0 i2 Jz] at q;cases q) r;exact I.step (t':=s.toks) (g':=s.gens) (d':=s.drawn) (ch:=[z,ti,to,i1,i2]) (fun c hc=>let ⟨_,f1,_,f3,f4,f5⟩:=hf c hc;(zAG f3 f1 f4 f5))
    (fun c o _ _ hc q _=>let ⟨n1,n2,n3,n4⟩:=lg c hc;hk c o n1 n2 n3 n4 q)
    (fun c o _ _ hc q _=>let ⟨n1,n2,n3,n4⟩:=lg c hc;⟨o.slots,hk c o n1 n2 n3 n4 q⟩)
    (fun _ _ _ _ n=>n) (fun c o hc q=>let ⟨n1,n2,n3,n4⟩:=lg c hc;⟨o,hk c o n1 n2 n3 n4 q⟩) (fun _ _ q=>q) (fun _ _ _ q=>q) (fun c ps q=>⟨#[],by rw [q];simp⟩)
    (fun m ⟨o,es,ep,hm,r⟩=>zAK o es ep (hk _ o (hf z Jz).2.1.symm (hf to Jz).2.1.symm (hf i1 Jz).2.1.symm (hf i2 Jz).2.1.symm hm) r)
    (fun c o q=>(I.hok c o q).stay (fun d v' hd r=>by
     rcases hd with e | e
     ·rw [e] at r ⊢;exact kp c o v' q r
     ·exact kp d _ v' e r) (fun _ r=>r) fun _ _ r=>r) I.bare
 self:=fun _ _ _ _ _ ⟨hz,_⟩ h=>wpAny_pyIter_zip hz h
def El(K:W.Frag)(ta:TA):TI:=fun σ H R=>ta σ H fun vs H1=>∃a b,vs=[.ref a,.ref b]/\(∃xs,SqL K H1 a xs)/\(∃ys,SqL K H1 b ys)/\R (Itz K a b) H1
theorem ES{X:Cx}{a b:Expr}{ta:TA}{p pos pos0:Pos}{elts:List Expr}{k0:Nat}(hm:X.mg "zip"=none) (ha:PA X [a,b] ta) (hg:Gl X "zip":=by rfl) (hs:starEach [a,b] X.env=(false,eval a X.env)::starEach [b] X.env:=by rfl) (hs2:(backTo pos (starEach [b] X.env)).any (·.1)=false:=by rfl) :
  PI X (.Tuple elts k0 pos0) (.Call (.Name "zip" p) [a,b] [] pos) (El X.K ta):=by
 intro pins s σ H R I h;refine Call_ (dZ I hg hm boot_zip (PyProof.Rows.callWith_type1 (thn (ha pos pins s σ H _ I h) fun us s1 hhx=>?_) hs hs2));obtain ⟨vs,H1,I1,r1,q1⟩:=hhx;obtain ⟨l,m,e,⟨xs,hx⟩,⟨ys,hy⟩,q⟩:=q1;subst e;obtain ⟨u,us',rfl,ru,r2⟩:∃u us',us=u::us'/\RelV (.ref l) u/\Vals [.ref m] us':=by cases r1 with | cons r rr=>exact zAA _ _ rfl r rr
 obtain ⟨v,rfl,rv⟩:=iS r2
 cases ru
 cases rv
 obtain ⟨its,_,p1,_⟩:=I1.list hx;obtain ⟨ots,_,p2,_⟩:=I1.list hy;have l1:l<s1.heap.objs.size:=by obtain ⟨o,ho,_⟩:=p1.isList;exact zq7 ho
 have l2:m<s1.heap.objs.size:=by obtain ⟨o,ho,_⟩:=p2.isList;exact zq7 ho
 refine call_zip_2 p1.isList p2.isList fun h' z1 z2 z3 z4 z5 _ hk=>?_;refine wpAny_pyIter_zip z1 ?_;have I2:Inv X pins σ H1 {s1 with heap:=h'}:=I1.kept (t':=s1.toks) hk;refine zAW _ _ _ _ H1 rfl I2 (zJ (zipApart_new l1 l2)) (zAI z1 z2 (zAJ _ _ z3) z4 z5) (fun c hc=>?_) q;have hle:s1.heap.objs.size<=c:=by
  simp only [List.mem_cons,List.not_mem_nil,or_false] at hc;rcases hc with rfl | rfl | rfl | rfl | rfl
  ·exact nU _ _
  ·exact nU _ _
  ·exact nU _ _
  ·exact zq0 _
  ·exact nU _ _
 exact I1.fpOk hle (I1.hok.fresh hle)
theorem Cj{X:Cx}{a b:Expr}{ta:TA}{p pos pos0:Pos}{elts:List Expr}{k0:Nat}(hm:X.mg "zip"=none) (ha:XA X [a,b] ta) (hg:Gl X "zip":=by rfl) (hs:starEach [a,b] X.env=(false,eval a X.env)::starEach [b] X.env:=by rfl) (hs2:(backTo pos (starEach [b] X.env)).any (·.1)=false:=by rfl) :
  XI X (.Tuple elts k0 pos0) (.Call (.Name "zip" p) [a,b] [] pos) (El X.K ta):=⟨ES hm ha.h hg hs hs2⟩
theorem Fl{K:W.Frag}{ta:TA}{σ:St}{H:Hp}{R:It->Hp->Prop}:El K ta σ H R=ta σ H fun vs H1=>∃a b,vs=[.ref a,.ref b]/\(∃xs,SqL K H1 a xs)/\(∃ys,SqL K H1 b ys)/\R (Itz K a b) H1:=rfl
theorem Ef{K:W.Frag}{a b:Addr}{xs ys:List V}{g:TG}{tb:TS}{D:dm}{σ:St}{H:Hp}(hlen:xs.length=ys.length)(Pv:Nat->St->Hp->Prop)(h0:Pv 0 σ H)(hl:∀i σ H,i<=xs.length->Pv i σ H->SqL K H a xs/\SqL K H b ys)
  (hs:∀(i:Nat)x y σ H p,xs[i]?=some x->ys[i]?=some y->H p=none->Pv i σ H->g (.ref p) σ (upd H p (.tup [x,y])) fun σ2 H2=>tb {D with nx:=Pv (i+1),ct:=Pv (i+1),bk:=D.nx} σ2 H2) (hd:∀σ H,Pv xs.length σ H->D.nx σ H):nW (Itz K a b) g tb D σ H:=by
 refine zn (fun i m σ H=>m=xs.length-i/\i<=xs.length/\Pv i σ H) (zAC xs.length Jz (cm _) h0) ?_;rintro i m σ H ⟨rfl,hi,p⟩;obtain ⟨q1,q2⟩:=hl i σ H hi p
 by_cases hlt:i<xs.length
 ·refine .inr ⟨zAU xs ys _ _ q1 q2 (zq8 hlt) (zq8 Jy),zn (Pv (i+1)) (fun σ' H' p'=>zAF (xs.length-(i+1)) Jy rfl hlt p') fun x H' y=>?_⟩;obtain ⟨pp,u,v,ex,hn,eH,y1,y2⟩:=y;subst ex eH;exact hs i u v σ H pp (y1 xs q1) (y2 ys q2) hn p
 ·obtain rfl:i=xs.length:=by omega
  exact .inl ⟨zAA xs ys q1 q2 (.inl (zq0 _)),hd σ H p⟩
end L2
namespace L2
def ma(l:List Str)(x:Str):List Str:=if x∈l then l else l++[x]
def dJ(ns:List Str):List Str:=ns.foldl ma []
theorem rB(ns:List Str)(x:Str):dJ (ns++[x])=ma (dJ ns) x:=by unfold dJ;rw [qJ];rfl
theorem vM{l:List Str}{x y:Str}:y∈ma l x↔y∈l\/y=x:=by
 unfold ma
 split
 ·next h=>exact ⟨.inl,fun z=>z.elim id fun e=>by rw [e];exact h⟩
 ·rw [zq11,zq2]
theorem md(ns:List Str):(∀y,y∈dJ ns↔y∈ns)/\(dJ ns).length<=ns.length/\((dJ ns).length=ns.length↔ns.Nodup):=by
 rw [<- AF ns];generalize ns.reverse=ms
 induction ms with
 |nil=>exact zAB (fun y=>Iff.rfl) (zq0 _) ⟨fun _=>Ay,fun _=>rfl⟩
 |cons x m ih=>
  rw [A6];generalize m.reverse=l at ih ⊢;obtain ⟨h1,h2,h3⟩:=ih;rw [rB,zq4,c9];refine zAB (fun y=>by rw [vM,h1,zq11,zq2]) ?_ ?_
  ·unfold ma;split
   ·omega
   ·rw [zq4,c9];omega
  ·rw [zq59];unfold ma
   split
   ·next h=>refine ⟨fun e=>absurd e Jy,fun ⟨_,_,z⟩=>absurd rfl (z x ((h1 x).mp h) x (zq2.mpr rfl))⟩
   ·next h=>rw [zq4,c9];refine ⟨fun e=>zAB (h3.mp Jy) Jz fun a ha b hb e2=>h ?_,fun ⟨z,_,_⟩=>by rw [h3.mpr z]⟩;rw [zq2.mp hb] at e2;rw [<- e2];exact (h1 a).mpr ha
section
variable {prog:Program} {w:World} {A:Around} {R:Result->Shared->Prop} {it:Addr} {fp wr:List Addr} {G:Array GenState->Array GenState->Prop} {n:Nat} {P:Nat->Value->Prop} {St:Nat->Shared->Prop}
end
section
variable {prog:Program} {w:World} {A:Around} {E:Value->Shared->Prop} {s:Shared}
end
def ud(p:Addr)(n:Nat):HO:=.ext fun h=>n<scanBound/\∃o es ep t,h.get? p=some o/\o.ExactSet/\o.data=.set es ep t/\t.fits es.size=true/\es.size=n
variable {X:Cx}
def Hw(K:W.Frag):List V->Hp->VK->Prop:=fun xs H Q=>∃(a:Addr)(ns:List Str),xs=[.ref a]/\SqL K H a (ns.map V.str)/\ns.length<64/\∀p:Addr,H p=none->Q (.ref p) (upd H p (ud p (dJ ns).length))
theorem FI{K:W.Frag}{a:Addr}{H:Hp}{Q:VK}:Hw K [.ref a] H Q=∃ns:List Str,SqL K H a (ns.map V.str)/\ns.length<64/\∀p:Addr,H p=none->Q (.ref p) (upd H p (ud p (dJ ns).length)):=propext ⟨by rintro ⟨_,ns,e,q⟩;cases e;exact ⟨ns,q⟩,by rintro ⟨ns,q⟩;exact zAD a ns rfl q⟩
def Ht:List V->Hp->VK->Prop:=fun xs H Q=>∃(p:Addr)(n:Nat),xs=[.ref p]/\H p=some (ud p n)/\Q (.int n) H
theorem Fx{p:Addr}{H:Hp}{Q:VK}:Ht [.ref p] H Q=∃n:Nat,H p=some (ud p n)/\Q (.int n) H:=propext ⟨by rintro ⟨_,n,e,q⟩;cases e;exact ⟨n,q⟩,by rintro ⟨n,q⟩;exact zAD p n rfl q⟩
end L2
namespace L2
section
variable {X:Cx}
def yE:List V->Hp->VK->Prop:=fun xs H Q=>∃(a:Addr)(kvs:List (Key×V)) (ns:List Str),xs=[.ref a]/\H a=some (.dK kvs)/\kvs.map (·.1)=ns.map Sum.inr/\ns.length<64/\∀l:Addr,H l=none->Q (.ref l) (upd H l (.lst ((FX.srt ns).map V.str)))
theorem w5{a:Addr}{H:Hp}{Q:VK}:yE [.ref a] H Q=∃(kvs:List (Key×V)) (ns:List Str),H a=some (.dK kvs)/\kvs.map (·.1)=ns.map Sum.inr/\ns.length<64/\∀l:Addr,H l=none->Q (.ref l) (upd H l (.lst ((FX.srt ns).map V.str))):=propext ⟨by rintro ⟨_,kvs,ns,e,q⟩;cases e;exact zAJ kvs ns q,by rintro ⟨kvs,ns,q⟩;exact zAK a kvs ns rfl q⟩
end
end L2
end
namespace GO
open PySem L2 FB FS FG FO FR FZ GA PyProof.Rows
variable {b b0:Bx} {d:Deed}
def atB(w:Int)(d:Deed)(b0 b:Bx):Bx:=match d with
 | .tell _=>b
 | .copy n _=>bv b (.inr n) (.int (cR b0 w d))
 | .op _ n _ _=>bv b (.inr n) (.int (cR b0 w d))
def beat(w:Int)(b0:Bx):List Deed->BT->BT
 | [],s=>s
 |d::r,s=>beat w b0 r (atB w d b0 s.1,doT w d b0 s.2)
def cW(F:List Blk)(w:Int):Nat->Nat->BT->BT×Bool
 |0,_,s=>(s,false)
 |m+1,i,s=>match F[i]? with
  |none=>(s,false)
  |some b=>match nxt s.1 b.ed with
   |none=>(beat w s.1 b.ds s,true)
   |some j=>cW F w m j (beat w s.1 b.ds s)
def tR(F:List Blk)(w:Int)(m:Nat)(b:Blk)(s:BT):BT×Bool:=match nxt s.1 b.ed with
 |none=>(beat w s.1 b.ds s,true)
 |some j=>cW F w m j (beat w s.1 b.ds s)
theorem gD{F:List Blk}{w:Int}{m i:Nat}{s:BT}{b:Blk}(h:F[i]?=some b):cW F w (m+1) i s=tR F w m b s:=by rw [cW,h];rfl
theorem BxG.atB{ns:List Str}{w:Int}(h0:BxG ns w b0)(h:BxG ns w b)(hd:Deed.good ns w d)(hw:1<=w):BxG ns w (atB w d b0 b):=by
 have l:=jU h0 hd hw
 cases d with
 |tell a=>exact h
 |copy n a=>exact h.put hd.1 l.1 l.2
 |op f n x y=>exact h.put hd.2.1 l.1 l.2
theorem lH{w:Int}{b0:Bx}:∀{ds:List Deed} {j:Nat} {d:Deed} {s:BT},ds[j]?=some d->beat w b0 (ds.take (j+1)) s=(GO.atB w d b0 (beat w b0 (ds.take j) s).1,doT w d b0 (beat w b0 (ds.take j) s).2)
 | [],j,d,s,h=>by simp at h
 |x::ds,0,d,s,h=>by
  simp at h;subst h;rfl
 |x::ds,j+1,d,s,h=>by rw [List.take_succ_cons,List.take_succ_cons,beat,beat];exact lH (by simpa using h)
theorem il{w:Int}{b0:Bx}:∀{ds:List Deed} {s:BT},(beat w b0 ds s).2.length<=s.2.length+ds.length
 | [],s=>zq0 _
 |d::r,s=>by rw [beat];have h:=il (w:=w) (b0:=b0) (ds:=r) (s:=(GO.atB w d b0 s.1,doT w d b0 s.2));have h2:=B4 (w:=w) (d:=d) (b:=b0) (t:=s.2);rw [cJ];dsimp only at h;omega
theorem fT{n:Str}{x u:V}(h:bE b (.inr n)=some u):(bv b (.inr n) x).map (·.1)=b.map (·.1):=by
 have hv:=cM (.inr n) b;rw [h] at hv;unfold bv;rw [if_pos (by rw [hv];rfl),jH];refine wM fun kv _=>?_;show (if _ then _ else kv).1=kv.1
 split<;>rfl
theorem xG{ns:List Str}{w:Int}(h:BxG ns w b)(hd:Deed.good ns w d):(GO.atB w d b0 b).map (·.1)=b.map (·.1):=by
 cases d with
 |tell a=>rfl
 |copy n a=>exact fT (h.val hd.1)
 |op f n x y=>exact fT (h.val hd.2.1)
theorem xH{ns:List Str}{w:Int}(h:BxG ns w b)(hd:Deed.good ns w d):(doB w d b).map (·.1)=b.map (·.1):=by
 cases d with
 |tell a=>rfl
 |copy n a=>exact fT (h.val hd.1)
 |op f n x y=>exact fT (h.val hd.2.1)
theorem BxG.beat{ns:List Str}{w:Int}(h0:BxG ns w b0)(hw:1<=w):∀{ds:List Deed} {s:BT},BxG ns w s.1->(∀d∈ds,Deed.good ns w d)->BxG ns w (GO.beat w b0 ds s).1/\(GO.beat w b0 ds s).1.map (·.1)=s.1.map (·.1)
 | [],s,h,_=>⟨h,rfl⟩
 |d::r,s,h,hd=>by rw [GO.beat];have hg:=hd d (eD ..);obtain ⟨h1,h2⟩:=BxG.beat h0 hw (s:=(GO.atB w d b0 s.1,doT w d b0 s.2)) (BxG.atB h0 h hg hw) fun x hx=>hd x (zq6 _ hx);exact ⟨h1,h2.trans (xG h hg)⟩
theorem oW{ins:List Str}{ws:Bx}(ns:List Str):∃ks:List Str,(aV ins ws ns).map (·.1)=ks.map Sum.inr/\ks.length<=ns.length:=by
 suffices h:∀m (ns:List Str),ns.length=m->∃ks:List Str,(aV ins ws ns).map (·.1)=ks.map Sum.inr/\ks.length<=ns.length from h _ ns rfl
 intro m
 induction m with
 |zero=>
  intro ns h;have:ns=[]:=zq42.mp h;subst this;exact zn ([]) rfl (zq0 _)
 |succ m ih=>
  intro ns h;obtain ⟨l,x,rfl⟩:∃l x,ns=l++[x]:=⟨ns.dropLast,ns.getLast (by intro z;rw [z] at h;simp at h),(sF _).symm⟩
  obtain ⟨ks,e,hl⟩:=ih l (by simpa using h);rw [eG]
  cases hv:bE (aV ins ws l) (.inr x) with
  |some u=>exact zn ks (by rw [fT hv];exact e) (by rw [zq4];omega)
  |none=>refine zn (ks++[x]) ?_ (by rw [zq4,zq4];simp;omega);have hv2:=cM (.inr x) (aV ins ws l);rw [hv] at hv2;unfold bv;rw [if_neg (by rw [hv2];simp),cy,e,cy];rfl
end GO
namespace L2
open PySem PySem.Spec PyProof.Rows
def EX(K:W.Frag):R2:=fun x y H Q=>∃(a b ta ba tb bb:Addr)(o:Bool)(xs:List Int)(ka:List (Key×V)),x=.ref a/\y=.ref b/\SqT K H a [.ref ta,.ref ba,.bl o]/\SqT K H b [.ref tb,.ref bb,.bl o]/\ta≠tb/\ba≠bb/\SqL K H ta (xs.map V.int)/\SqL K H tb (xs.map V.int)/\Rd H ba (.dK ka)/\Rd H bb (.dK ka)/\ka.all (fun kv=>bF kv.2)=true/\vf ka ka=true/\Q (.bl false) H
theorem wu{prog:Program}{w:World}{A:Around}{E:Value->Shared->Prop}{s:Shared}{p q:Addr}{xs ys:Array Value}{Q:Value->Shared->Prop}(hp:s.heap.IsTuple p xs)(hq:s.heap.IsTuple q ys)(hz:xs.size=ys.size)(hu:A.units<cLine)
  (he:∀z∈xs.toList.zip ys.toList,∀(E':Value->Shared->Prop)(Q':Bool->Shared->Prop),Q' true s->wpAny (model prog w) A.in1 (eqBool z.1 z.2) Q' E' s) (h:Q (.bool false) s) :
  wpAny (model prog w) A (compareOp .NotEq (.ref p) (.ref q)) Q E s:=by
 refine wpAny_richCompare_same_room (op:=.NotEq) hp.typeIs hq.typeIs F.slot_tuple_ne (wpAny_call_entry F.slot_tuple_ne hp.typeIs F.entry_tuple_ne ?_ (F.args_tuple_ne_2 _ _)) hu;rcases hp with ⟨⟨c1,d1,a1,s1⟩,g1,e1,m1,f1⟩;rcases hq with ⟨⟨c2,d2,a2,s2⟩,g2,e2,m2,f2⟩;dsimp only at e1 f1 e2 f2;subst e1 f1 e2 f2;obtain ⟨hh,gg,dd,tk,os⟩:=s;have ft:=AutoSeq1.sub_tuple_tuple
 wp_walk using AutoSeq1.wpAny_loadPart' g1,AutoSeq1.wpAny_loadPart' g2,wpAny_forIn_list _ (fun ee b s'=>b.1=none/\s'=⟨hh,gg,dd,tk,os⟩/\∀z∈ee,∀(E':Value->Shared->Prop)(Q':Bool->Shared->Prop),Q' true ⟨hh,gg,dd,tk,os⟩->wpAny (model prog w) A.in1 (eqBool z.1 z.2) Q' E' ⟨hh,gg,dd,tk,os⟩) _
 case turn=>
  rintro z ee b s' ⟨hb,rfl,hr⟩;refine wpAny_bind (hr z (eD ..) _ _ ?_)
  wp_walk
  exact zAB rfl rfl fun y hy=>hr y (zq6 _ hy)
 case fin=>
  rintro ⟨b1,b2⟩ s' ⟨hb,rfl,_⟩;dsimp only at hb;subst hb
  wp_walk
  exact zn _ rfl (by simpa [Builtin.Tuple.tupleCompareSizes,bne,hz] using h)
 case h=>exact zAB rfl rfl he
section
variable {X:Cx}
theorem yi(hu:X.A.units+2<cLine):OpR X (compareOp .NotEq) (EX X.K):=by
 intro pins s σ H x y v u Q I rx ry h;obtain ⟨a,b,ta,ba,tb,bb,o,xs,ka,rfl,rfl,ha,hb,n1,n2,l1,l2,d1,d2,fa,ed,q⟩:=h
 cases rx;cases ry
 obtain ⟨its,r,p,_⟩:=I.tuple ha;obtain ⟨its2,r2,p2,_⟩:=I.tuple hb;have e1:=r.length;have e2:=r2.length;have e3:its.toArray.size=3:=by simp [<- e1]
 have e4:its2.toArray.size=3:=by simp [<- e2]
 refine wu (show s.heap.IsTuple a its.toArray from p) (show s.heap.IsTuple b its2.toArray from p2) (e3.trans e4.symm) Jy (fun z hz E' Q' q'=>?_) (zAA (.bl _) H I rfl q);obtain ⟨j,hj⟩:=zq61.mp hz;rw [DX] at hj;obtain ⟨h1,h2⟩:=hj;rw [List.toList_toArray] at h1 h2;obtain ⟨hj,_⟩:=zq10.mp h1;rw [<- e1] at hj;obtain ⟨u1,hu1,r1⟩:=r.get (zq8 hj);obtain ⟨u2,hu2,r2'⟩:=r2.get (zq8 (show j<[V.ref tb,V.ref bb,V.bl o].length from hj));rw [h1] at hu1;rw [h2] at hu2
 cases hu1;cases hu2
 match j,hj,r1,r2' with
 |0,_,rx,ry=>
  have z:=Dq.lists (K:=X.K) (H:=H) (n:=0) (fun _=>true) n1 l1 l2 rfl fun j x y hx hy=>by
   rw [hx] at hy
   cases hy
   rw [cn] at hx;obtain ⟨i,hi,rfl⟩:=zq32.mp hx;have e:true=eqV (.int i) (.int i):=by simp [eqV]
   rw [e];exact .flat rfl rfl
  rw [wX] at z;exact z.at I (A:=X.A.in1) rx ry (by show X.A.units+1+1<cLine;omega) _ _ _ _ q'
 |1,_,rx,ry=>
  have rx':RelV (.ref ba) z.1:=rx;have ry':RelV (.ref bb) z.2:=ry;obtain ⟨z1,z2⟩:=z;dsimp only at rx' ry' ⊢
  cases rx';cases ry'
  unfold eqBool;refine wpAny_holding (wpAny_ite_split (fun hab=>absurd (by have:=eq_of_beq hab;injection this) n2) fun _=>?_);obtain ⟨za,hda,va,ra,da⟩:=gX I.hok d1;obtain ⟨zb,hdb,vb,rb,db⟩:=gX I.hok d2;refine wpAny_bind (W.keq_eq hda hdb da db (by show X.A.units+1<cLine;omega) (fun _=>mT rb fa ra fa) ?_);rw [<- ra.length,<- rb.length];show wpAny _ _ (truthOfDropped (.bool (vf ka ka))) _ _ _;rw [ed];exact wpAny_truthy_bool q'
 |2,_,rx,ry=>
  have e:true=eqV (.bl o) (.bl o):=by cases o<;>rfl
  rw [e] at q';exact mN (A:=X.A.in1) rx ry rfl rfl _ _ _ _ q'
end
end L2
local macro_rules | `(tactic| simp_arith [$ts,*] $l:location)=>`(tactic| simp only [L2.Jl,L2.IY,L2.Jm,L2.IZ,L2.Jn,L2.J0,L2.Jo,L2.J3,L2.Jp,L2.J4,L2.Jq,L2.J5,L2.Jr,L2.J6,L2.Js,L2.J7,L2.Jt,L2.J8,L2.Ju,L2.J9,L2.IA,L2.HI,L2.IB,L2.HJ,L2.IC,L2.HK,L2.ID,L2.HL,L2.IE,L2.HM,L2.IF,L2.HN,L2.IG,L2.HP,L2.IH,L2.HQ,L2.II,L2.HR,L2.r_c,L2.Jd,L2.Ji,L2.Jk,L2.y_I,L2.y_U,L2.HE,L2.HF,L2.HZ,L2.Fe,L2.BO,L2.FK,L2.r_B,L2.Hz,L2.Je,L2.Ia,L2.EY,L2.Ib,L2.Ja,L2.FE,L2.yW,L2.F6,L2.Id,L2.CD,L2.HB,L2.IU,L2.I0,L2.F2,L2.F1,L2.Ii,L2.HY,L2.Jf,L2.Jg,L2.F4,L2.F3,L2.Jh,L2.yO,L2.FF,L2.Ff,L2.BP,L2.HU,L2.Jc,L2.Jb,L2.Fp,L2.Fq,L2.Fs,L2.Ft,L2.Fu,L2.Fv,L2.Fw,L2.HH,L2.BQ,L2.BS,L2.Fk,L2.BU,L2.F7,L2.F8,L2.F9,L2.HG,L2.IW,L2.HC,L2.HW,L2.HV,L2.CF,L2.HD,L2.Ig,L2.yF,L2.Ic,L2.Fd,L2.Fb,L2.Fo,L2.Fh,true_and,and_true,forall_const,Int.reduceLT,L2.BJ,L2.vZ,L2.Ij,L2.r_isi_int_str,L2.r_isi_str_str,L2.Ih,L2.HS,L2.yP,L2.Ec,L2.GC,L2.GP,L2.EZ,L2.F0,List.map_cons,List.map_nil,List.getElem?_cons_zero,List.getElem?_cons_succ,Option.join_some,L2.IV,L2.BM,L2.F5,L2.Fc,L2.Fg,List.set_cons_zero,List.set_cons_succ,L2.yM,L2.FJ,L2.Fi,L2.FC,L2.Fz,L2.Fj,L2.vW,L2.BZ,L2.E7,L2.HA,L2.BL,L2.yK,L2.BN,L2.vV,L2.BR,L2.Fl,L2.BV,L2.Fx,L2.FH,L2.FI,L2.yZ,L2.w5,L2.z7,$ts,*] $l:location)
local macro_rules | `(tactic| simp_arith [$ts,*])=>`(tactic| simp_arith [$ts,*] at ⊢)
local macro_rules | `(tactic| rwa [$[$ts:term],*]) => `(tactic| simp_arith [$[$ts:term],*])
local macro_rules | `(∅) => `(by first | exact ⟨rfl,rfl,rfl,Jv,rfl,Jv,Jv⟩ | (intro vs H Q E h; first | (obtain ⟨h,_⟩ := h; cases h; rfl) | (obtain ⟨_,h,_⟩ := h; cases h; rfl) | (obtain ⟨_,_,h,_⟩ := h; cases h; rfl) | (obtain ⟨_,_,_,h,_⟩ := h; cases h; rfl) | (obtain ⟨_,_,_,_,h,_⟩ := h; cases h; rfl) | (obtain ⟨_,_,_,_,_,h,_⟩ := h; cases h; rfl) | (obtain ⟨_,_,_,_,_,_,h,_⟩ := h; cases h; rfl) | (obtain ⟨_,_,_,_,_,_,_,h,_⟩ := h; cases h; rfl) | (obtain ⟨_,_,_,_,_,_,_,_,h,_⟩ := h; cases h; rfl)))
namespace K71
open PySem L2 PyProof.Rows FA FB FS FP FG FO FR
def top(i:Nat):Stmt:=PySem.Challenge.pw_deedloom_k71_whole_units_make_no_differe.main.body.getD i (.Pass ⟨0,0,0,0⟩)
abbrev CI:Stmt:=top 2
theorem sc_100:aE ["program","parting","first"] ["program"] (ay CI):=∅
abbrev CJ:Stmt:=bB (top 3) 0
theorem FQ:aE ["self"] ["self"] (ay CJ):=∅
abbrev CK:Stmt:=bB (top 3) 1
theorem FT:aE ["self"] ["self"] (ay CK):=∅
abbrev CL:Stmt:=bB (top 3) 2
theorem FU:aE ["self","block"] ["self","block"] (ay CL):=∅
abbrev CM:Stmt:=bB (top 3) 3
theorem FV:aE ["self","block"] ["self","block"] (ay CM):=∅
abbrev CN:Stmt:=bB (top 3) 4
theorem sc_105:aE ["self","rows","block","row"] ["self","rows","block"] (ay CN):=∅
abbrev CO:Stmt:=bB (top 3) 5
theorem FY:aE ["self","row","block"] ["self","row","block"] (ay CO):=∅
abbrev CQ:Stmt:=bB (top 3) 6
theorem sc_107:aE ["self","row","block","behind","ones","others"] ["self","row","block"] (ay CQ):=∅
abbrev CS:Stmt:=bB (top 3) 7
theorem sc_108:aE ["self","row","block","behind","look","inner"] ["self","row","block"] (ay CS):=∅
abbrev CT:Stmt:=bB (top 5) 0
theorem G0:aE ["self","width","ins","boxes","rows"] ["self","width","ins","boxes","rows"] (ay CT):=∅
abbrev CU:Stmt:=top 6
theorem G1:aE ["rows"] ["rows"] (ay CU):=∅
abbrev CV:Stmt:=top 7
theorem G3:aE ["row"] ["row"] (ay CV):=∅
abbrev CW:Stmt:=top 8
theorem sc_112:aE ["width","many","bit"] ["width"] (ay CW):=∅
abbrev CY:Stmt:=top 9
theorem G4:aE ["op","x","y","width"] ["op","x","y","width"] (ay CY):=∅
abbrev CZ:Stmt:=top 12
theorem G5:aE ["deed"] ["deed"] (ay CZ):=∅
abbrev D0:Stmt:=top 13
theorem G6:aE ["deed"] ["deed"] (ay D0):=∅
abbrev D1:Stmt:=top 14
theorem G7:aE ["deed"] ["deed"] (ay D1):=∅
abbrev D2:Stmt:=top 15
theorem G8:aE ["deed"] ["deed"] (ay D2):=∅
abbrev D3:Stmt:=top 16
theorem G9:aE ["operand","boxes"] ["operand","boxes"] (ay D3):=∅
abbrev D4:Stmt:=top 17
theorem sc_119:aE ["deed","boxes","width","parts"] ["deed","boxes","width"] (ay D4):=∅
abbrev D5:Stmt:=top 19
theorem Ga:aE ["ending","boxes"] ["ending","boxes"] (ay D5):=∅
abbrev D6:Stmt:=top 20
theorem Gb:aE ["ending","places"] ["ending","places"] (ay D6):=∅
abbrev D7:Stmt:=top 22
theorem sc_122:aE ["deeds","j","k","earlier","later","name"] ["deeds","j","k"] (ay D7):=∅
abbrev D8:Stmt:=top 23
theorem sc_123:aE ["deeds","units","layer","everything","ways","longer","done","beats","beat"] ["deeds","units"] (ay D8):=∅
abbrev D9:Stmt:=bB (top 24) 0
theorem Gc:aE ["self","deeds","units"] ["self","deeds","units"] (ay D9):=∅
abbrev Da:Stmt:=bB (top 24) 1
theorem sc_125:aE ["self","done","place","missing","beats"] ["self","done"] (ay Da):=∅
abbrev Dc:Stmt:=bB (top 24) 2
theorem sc_126:aE ["self","done","beats","place","more","beat","taken"] ["self","done","beats","place"] (ay Dc):=∅
abbrev Dd:Stmt:=bB (top 24) 3
theorem Gd:aE ["self","done","beat","missing"] ["self","done","beat","missing"] (ay Dd):=∅
abbrev De:Stmt:=bB (top 24) 4
theorem sc_128:aE ["self","done","beat","place","sort","earlier","lean","ahead"] ["self","done","beat","place"] (ay De):=∅
abbrev Df:Stmt:=top 26
theorem sc_129:aE ["program","words","boxes","name"] ["program","words"] (ay Df):=∅
abbrev Dg:Stmt:=bB (top 27) 0
theorem Ge:aE ["self","program","words"] ["self","program","words"] (ay Dg):=∅
abbrev Dh:Stmt:=bB (top 27) 1
theorem Gf:aE ["self"] ["self"] (ay Dh):=∅
abbrev Di:Stmt:=bB (top 27) 2
theorem sc_132:aE ["self","row"] ["self"] (ay Di):=∅
abbrev Dj:Stmt:=bB (top 27) 3
theorem Gg:aE ["self","row"] ["self","row"] (ay Dj):=∅
abbrev Dk:Stmt:=bB (top 27) 4
theorem sc_134:aE ["self","deed","word","name"] ["self","deed"] (ay Dk):=∅
abbrev Dl:Stmt:=bB (top 27) 5
theorem Gh:aE ["self","rows"] ["self","rows"] (ay Dl):=∅
abbrev Dm:Stmt:=top 28
theorem sc_136:aE ["program","words","most","going","steps"] ["program","words","most"] (ay Dm):=∅
abbrev Dn:Stmt:=top 30
theorem sc_137:aE ["program","units","blocks","block","laid_blocks","firsts","many","beats","table","deeds"] ["program","units"] (ay Dn):=∅
abbrev Do:Stmt:=top 31
theorem sc_138:aE ["block","units","deeds","ending","beats"] ["block","units"] (ay Do):=∅
abbrev Dp:Stmt:=top 32
theorem Gi:aE ["deeds","name"] ["deeds","name"] (ay Dp):=∅
abbrev Dr:Stmt:=bB (top 33) 0
theorem Gj:aE ["self","program","table","words"] ["self","program","table","words"] (ay Dr):=∅
abbrev Ds:Stmt:=bB (top 33) 1
theorem sc_141:aE ["self","state","after","deed","word","name"] ["self"] (ay Ds):=∅
abbrev Dt:Stmt:=top 34
theorem sc_142:aE ["program","table","words","most","going","beats"] ["program","table","words","most"] (ay Dt):=∅
abbrev Du:Stmt:=top 37
theorem sc_143:aE ["_law_cell","_law_k","_law_number"] ["_law_cell","_law_k"] (ay Du):=∅
abbrev Dv:Stmt:=top 38
theorem sc_144:aE ["_law_cell","_law_letters","_law_mixed_here","_law_size","_law_place","_law_names_here","_law_k","_law_name","_law_j","_law_at"] ["_law_cell"] (ay Dv):=∅
abbrev Dw:Stmt:=top 39
theorem Gk:aE ["_law_mixed_here","_law_names_here","_law_width"] ["_law_mixed_here","_law_names_here","_law_width"] (ay Dw):=∅
abbrev Dx:Stmt:=top 40
theorem sc_146:aE ["_law_mixed_here","_law_names_here","_law_width","_law_one","_law_name","_law_op_here"] ["_law_mixed_here","_law_names_here","_law_width"] (ay Dx):=∅
abbrev Dy:Stmt:=top 41
theorem Gm:aE ["_law_stack","_law_row"] ["_law_stack","_law_row"] (ay Dy):=∅
abbrev Dz:Stmt:=top 42
theorem sc_148:aE ["_law_stack","_law_kind","_law_rows","_law_name","_law_ones"] ["_law_stack"] (ay Dz):=∅
abbrev DA:Stmt:=top 43
theorem sc_149:aE ["_law_cells","_law_names_here","_law_width","_law_most","_law_stack","_law_many","_law_k","_law_cell","_law_mixed_here","_law_way","_law_kind","_law_rows","_law_name","_law_ones"] ["_law_cells","_law_names_here","_law_width","_law_most"] (ay DA):=∅
abbrev DB:Stmt:=top 44
theorem Gn:aE ["_law_operand_here","_law_boxes"] ["_law_operand_here","_law_boxes"] (ay DB):=∅
abbrev DC:Stmt:=top 45
theorem sc_151:aE ["_law_op_here","_law_x","_law_y","_law_width","_law_size","_law_total","_law_k","_law_one","_law_other","_law_bit"] ["_law_op_here","_law_x","_law_y","_law_width"] (ay DC):=∅
abbrev DD:Stmt:=top 46
theorem Gp:aE ["_law_row","_law_boxes","_law_told","_law_width"] ["_law_row","_law_boxes","_law_told","_law_width"] (ay DD):=∅
abbrev DE:Stmt:=top 47
theorem sc_153:aE ["_law_rows","_law_boxes","_law_width","_law_most","_law_told","_law_row","_law_work","_law_steps","_law_again","_law_part"] ["_law_rows","_law_boxes","_law_width","_law_most"] (ay DE):=∅
abbrev DF:Stmt:=top 48
theorem Gq:aE ["_law_deed_here"] ["_law_deed_here"] (ay DF):=∅
abbrev DG:Stmt:=top 49
theorem sc_155:aE ["_law_deeds","_law_units","_law_many","_law_used","_law_deed_here","_law_name"] ["_law_deeds","_law_units"] (ay DG):=∅
abbrev DH:Stmt:=top 50
theorem Gr:aE ["_law_found","_law_said","_law_boxes","_law_over"] ["_law_found","_law_said","_law_boxes","_law_over"] (ay DH):=∅
abbrev DI:Stmt:=top 51
theorem sc_157:aE ["_law_script","_law_cells","_law_first","_law_width","_law_ins","_law_others","_law_rows","_law_program_here","_law_words","_law_boxes","_law_k","_law_name","_law_most","_law_said","_law_over","_law_steps","_law_units","_law_table","_law_state"] ["_law_script"] (ay DI):=∅
def kvs_SORTS:List (Key×V):=[(.inr "plus",.int 0),(.inr "less",.int 0),(.inr "below",.int 1),(.inr "same",.int 1),(.inr "and",.int 2),(.inr "or",.int 2),(.inr "xor",.int 2)]
set_option genInjectivity false in
structure Ad where
 pr:Params
 D_SORTS:Addr
 k_MOST_DEEDS:Tok
 C_Run:Addr
 C_TableRun:Addr
 C_Parting:Addr
 C_Program:Addr
 C_Layer:Addr
 f_100:Addr
 e_100:FuncData
 f_101:Addr
 e_101:FuncData
 f_102:Addr
 e_102:FuncData
 f_103:Addr
 e_103:FuncData
 f_104:Addr
 e_104:FuncData
 f_105:Addr
 e_105:FuncData
 f_106:Addr
 e_106:FuncData
 f_107:Addr
 e_107:FuncData
 f_108:Addr
 e_108:FuncData
 f_109:Addr
 e_109:FuncData
 f_110:Addr
 e_110:FuncData
 f_111:Addr
 e_111:FuncData
 f_112:Addr
 e_112:FuncData
 f_113:Addr
 e_113:FuncData
 f_114:Addr
 e_114:FuncData
 f_115:Addr
 e_115:FuncData
 f_116:Addr
 e_116:FuncData
 f_117:Addr
 e_117:FuncData
 f_118:Addr
 e_118:FuncData
 f_119:Addr
 e_119:FuncData
 f_120:Addr
 e_120:FuncData
 f_121:Addr
 e_121:FuncData
 f_122:Addr
 e_122:FuncData
 f_123:Addr
 e_123:FuncData
 f_124:Addr
 e_124:FuncData
 f_125:Addr
 e_125:FuncData
 f_126:Addr
 e_126:FuncData
 f_127:Addr
 e_127:FuncData
 f_128:Addr
 e_128:FuncData
 f_129:Addr
 e_129:FuncData
 f_130:Addr
 e_130:FuncData
 f_131:Addr
 e_131:FuncData
 f_132:Addr
 e_132:FuncData
 f_133:Addr
 e_133:FuncData
 f_134:Addr
 e_134:FuncData
 f_135:Addr
 e_135:FuncData
 f_136:Addr
 e_136:FuncData
 f_137:Addr
 e_137:FuncData
 f_138:Addr
 e_138:FuncData
 f_139:Addr
 e_139:FuncData
 f_140:Addr
 e_140:FuncData
 f_141:Addr
 e_141:FuncData
 f_142:Addr
 e_142:FuncData
 f_143:Addr
 e_143:FuncData
 f_144:Addr
 e_144:FuncData
 f_145:Addr
 e_145:FuncData
 f_146:Addr
 e_146:FuncData
 f_147:Addr
 e_147:FuncData
 f_148:Addr
 e_148:FuncData
 f_149:Addr
 e_149:FuncData
 f_150:Addr
 e_150:FuncData
 f_151:Addr
 e_151:FuncData
 f_152:Addr
 e_152:FuncData
 f_153:Addr
 e_153:FuncData
 f_154:Addr
 e_154:FuncData
 f_155:Addr
 e_155:FuncData
 f_156:Addr
 e_156:FuncData
 f_157:Addr
 e_157:FuncData
structure Txt(K:W.Frag)(mg:Str->Option Value)(t:Ad):Prop where
 g_SORTS:mg "SORTS"=some (.ref t.D_SORTS)
 k_SORTS:nV K t.pr t.D_SORTS kvs_SORTS
 g_MOST_DEEDS:mg "MOST_DEEDS"=some (.int 8 t.k_MOST_DEEDS)
 c_Run:KlsAt K mg "Run" t.C_Run
 n_Run_width:NoAttr K t.C_Run "width"
 n_Run_left:NoAttr K t.C_Run "left"
 n_Run_boxes:NoAttr K t.C_Run "boxes"
 n_Run_told:NoAttr K t.C_Run "told"
 c_TableRun:KlsAt K mg "TableRun" t.C_TableRun
 n_TableRun_width:NoAttr K t.C_TableRun "width"
 n_TableRun_table:NoAttr K t.C_TableRun "table"
 n_TableRun_boxes:NoAttr K t.C_TableRun "boxes"
 n_TableRun_told:NoAttr K t.C_TableRun "told"
 n_TableRun_place:NoAttr K t.C_TableRun "place"
 c_Parting:KlsAt K mg "Parting" t.C_Parting
 n_Parting_blocks:NoAttr K t.C_Parting "blocks"
 c_Program:KlsAt K mg "Program" t.C_Program
 n_Program_width:NoAttr K t.C_Program "width"
 n_Program_ins:NoAttr K t.C_Program "ins"
 n_Program_boxes:NoAttr K t.C_Program "boxes"
 n_Program_rows:NoAttr K t.C_Program "rows"
 c_Layer:KlsAt K mg "Layer" t.C_Layer
 n_Layer_units:NoAttr K t.C_Layer "units"
 n_Layer_sorts:NoAttr K t.C_Layer "sorts"
 n_Layer_gaps:NoAttr K t.C_Layer "gaps"
 d_100:bu K mg "blocks_of" CI ["program"] t.f_100 t.e_100
 d_101:bj K t.C_Parting "__init__" "Parting.__init__" CJ ["self"] t.f_101 t.e_101
 d_102:bj K t.C_Parting "keep_place" "Parting.keep_place" CK ["self"] t.f_102 t.e_102
 d_103:bj K t.C_Parting "numbered" "Parting.numbered" CL ["self","block"] t.f_103 t.e_103
 d_104:bj K t.C_Parting "way_to" "Parting.way_to" CM ["self","block"] t.f_104 t.e_104
 d_105:bj K t.C_Parting "opened" "Parting.opened" CN ["self","rows","block"] t.f_105 t.e_105
 d_106:bj K t.C_Parting "with_row" "Parting.with_row" CO ["self","row","block"] t.f_106 t.e_106
 d_107:bj K t.C_Parting "with_if" "Parting.with_if" CQ ["self","row","block"] t.f_107 t.e_107
 d_108:bj K t.C_Parting "with_while" "Parting.with_while" CS ["self","row","block"] t.f_108 t.e_108
 d_109:bj K t.C_Program "__init__" "Program.__init__" CT ["self","width","ins","boxes","rows"] t.f_109 t.e_109
 d_110:bu K mg "copied" CU ["rows"] t.f_110 t.e_110
 d_111:bu K mg "copied_row" CV ["row"] t.f_111 t.e_111
 d_112:bu K mg "word_count" CW ["width"] t.f_112 t.e_112
 d_113:bu K mg "reckoned" CY ["op","x","y","width"] t.f_113 t.e_113
 d_114:bu K mg "operands_of" CZ ["deed"] t.f_114 t.e_114
 d_115:bu K mg "boxes_read" D0 ["deed"] t.f_115 t.e_115
 d_116:bu K mg "box_written" D1 ["deed"] t.f_116 t.e_116
 d_117:bu K mg "sort_of" D2 ["deed"] t.f_117 t.e_117
 d_118:bu K mg "word_of" D3 ["operand","boxes"] t.f_118 t.e_118
 d_119:bu K mg "word_made" D4 ["deed","boxes","width"] t.f_119 t.e_119
 d_120:bu K mg "place_led_to" D5 ["ending","boxes"] t.f_120 t.e_120
 d_121:bu K mg "led_anew" D6 ["ending","places"] t.f_121 t.e_121
 d_122:bu K mg "gap" D7 ["deeds","j","k"] t.f_122 t.e_122
 d_123:bu K mg "laid" D8 ["deeds","units"] t.f_123 t.e_123
 d_124:bj K t.C_Layer "__init__" "Layer.__init__" D9 ["self","deeds","units"] t.f_124 t.e_124
 d_125:bj K t.C_Layer "full_beats" "Layer.full_beats" Da ["self","done"] t.f_125 t.e_125
 d_126:bj K t.C_Layer "grown" "Layer.grown" Dc ["self","done","beats","place"] t.f_126 t.e_126
 d_127:bj K t.C_Layer "has_room" "Layer.has_room" Dd ["self","done","beat","missing"] t.f_127 t.e_127
 d_128:bj K t.C_Layer "fits" "Layer.fits" De ["self","done","beat","place"] t.f_128 t.e_128
 d_129:bu K mg "first_boxes" Df ["program","words"] t.f_129 t.e_129
 d_130:bj K t.C_Run "__init__" "Run.__init__" Dg ["self","program","words"] t.f_130 t.e_130
 d_131:bj K t.C_Run "is_over" "Run.is_over" Dh ["self"] t.f_131 t.e_131
 d_132:bj K t.C_Run "go_step" "Run.go_step" Di ["self"] t.f_132 t.e_132
 d_133:bj K t.C_Run "look_at_while" "Run.look_at_while" Dj ["self","row"] t.f_133 t.e_133
 d_134:bj K t.C_Run "do_deed" "Run.do_deed" Dk ["self","deed"] t.f_134 t.e_134
 d_135:bj K t.C_Run "put_ahead" "Run.put_ahead" Dl ["self","rows"] t.f_135 t.e_135
 d_136:bu K mg "run" Dm ["program","words","most"] t.f_136 t.e_136
 d_137:bu K mg "table_of" Dn ["program","units"] t.f_137 t.e_137
 d_138:bu K mg "beats_of" Do ["block","units"] t.f_138 t.e_138
 d_139:bu K mg "writes" Dp ["deeds","name"] t.f_139 t.e_139
 d_140:bj K t.C_TableRun "__init__" "TableRun.__init__" Dr ["self","program","table","words"] t.f_140 t.e_140
 d_141:bj K t.C_TableRun "go_beat" "TableRun.go_beat" Ds ["self"] t.f_141 t.e_141
 d_142:bu K mg "run_table" Dt ["program","table","words","most"] t.f_142 t.e_142
 d_143:bu K mg "_law_mixed" Du ["_law_cell","_law_k"] t.f_143 t.e_143
 d_144:bu K mg "_law_names" Dv ["_law_cell"] t.f_144 t.e_144
 d_145:bu K mg "_law_operand" Dw ["_law_mixed_here","_law_names_here","_law_width"] t.f_145 t.e_145
 d_146:bu K mg "_law_deed" Dx ["_law_mixed_here","_law_names_here","_law_width"] t.f_146 t.e_146
 d_147:bu K mg "_law_into" Dy ["_law_stack","_law_row"] t.f_147 t.e_147
 d_148:bu K mg "_law_closed" Dz ["_law_stack"] t.f_148 t.e_148
 d_149:bu K mg "_law_program" DA ["_law_cells","_law_names_here","_law_width","_law_most"] t.f_149 t.e_149
 d_150:bu K mg "_law_word" DB ["_law_operand_here","_law_boxes"] t.f_150 t.e_150
 d_151:bu K mg "_law_op" DC ["_law_op_here","_law_x","_law_y","_law_width"] t.f_151 t.e_151
 d_152:bu K mg "_law_deed_done" DD ["_law_row","_law_boxes","_law_told","_law_width"] t.f_152 t.e_152
 d_153:bu K mg "_law_run" DE ["_law_rows","_law_boxes","_law_width","_law_most"] t.f_153 t.e_153
 d_154:bu K mg "_law_sort" DF ["_law_deed_here"] t.f_154 t.e_154
 d_155:bu K mg "_law_state_good" DG ["_law_deeds","_law_units"] t.f_155 t.e_155
 d_156:bu K mg "_law_agrees" DH ["_law_found","_law_said","_law_boxes","_law_over"] t.f_156 t.e_156
 d_157:bu K mg "law" DI ["_law_script"] t.f_157 t.e_157
 z_range:mg "range"=none
 z_isinstance:mg "isinstance"=none
 z_int:mg "int"=none
 z_bool:mg "bool"=none
 z_max:mg "max"=none
 z_enumerate:mg "enumerate"=none
 z_len:mg "len"=none
 z_str:mg "str"=none
 z_list:mg "list"=none
 z_reversed:mg "reversed"=none
 z_tuple:mg "tuple"=none
 z_dict:mg "dict"=none
 z_any:mg "any"=none
 z_min:mg "min"=none
 z_zip:mg "zip"=none
 z_sorted:mg "sorted"=none
theorem xI{K:W.Frag}{pr:Params}{D:Addr}{h0 h1 h2 h3 h4 h5 h6:Int}{t0 u0 t1 u1 t2 u2 t3 u3 t4 u4 t5 u5 t6 u6:Tok}{ep:Nat}(l:K.lookup D=some ⟨.type "dict",none,.dict #[⟨h0,.str "plus" t0,.int 0 u0⟩,⟨h1,.str "less" t1,.int 0 u1⟩,⟨h2,.str "below" t2,.int 1 u2⟩,⟨h3,.str "same" t3,.int 1 u3⟩,⟨h4,.str "and" t4,.int 2 u4⟩,⟨h5,.str "or" t5,.int 2 u5⟩,⟨h6,.str "xor" t6,.int 2 u6⟩] ep,#[]⟩) (s:(D==sysModules)=false) (hD:[h0,h1,h2,h3,h4,h5,h6]=kvs_SORTS.map (fun kv=>Ep pr kv.1)):nV K pr D kvs_SORTS:=by simp only [kvs_SORTS,List.map_cons,List.map_nil,List.cons.injEq,and_true] at hD;obtain ⟨e0,e1,e2,e3,e4,e5,e6⟩:=hD;exact zAE _ _ l s Jv (.cons (zAB Jw e0 ⟨_,rfl⟩) (.cons (zAB Jw e1 ⟨_,rfl⟩) (.cons (zAB Jw e2 ⟨_,rfl⟩) (.cons (zAB Jw e3 ⟨_,rfl⟩) (.cons (zAB Jw e4 ⟨_,rfl⟩) (.cons (zAB Jw e5 ⟨_,rfl⟩) (.cons (zAB Jw e6 ⟨_,rfl⟩) (.nil))))))))
variable {H:Hp} {u:TS}
def gT(u:TS)(D:dm):L2.St->Hp->Prop:=u D
theorem later{D:dm}{σ:L2.St}(h:u D σ H):gT u D σ H:=h
theorem yX{t:TS}{D:dm}{σ:L2.St}:Gx t u D σ H=t {D with nx:=gT u D} σ H:=rfl
theorem yN{t:TS}{D:dm}{σ:L2.St}:Gw t u D σ H=∃Mid:L2.St->Hp->Prop,t {D with nx:=Mid} σ H/\∀σ' H',Mid σ' H'->gT u D σ' H':=rfl
theorem Fm{c:TT}{t:TS}{D:dm}{σ:L2.St}:Gv c t u D σ H=c σ H fun b H1=>if b=true then gT t D σ H1 else gT u D σ H1:=rfl
end K71
local macro_rules | `(tactic| simp_arith! [$ts,*])=>`(tactic| simp_arith [-L2.yW,-L2.yM,K71.yX,K71.yN,$ts,*])
local macro_rules | `(tactic| simp_arith only [$ts,*])=>`(tactic| simp_arith [-L2.yW,-L2.CD,-L2.yM,K71.yX,K71.Fm,K71.yN,$ts,*])
namespace K71
open PySem L2 PyProof.Rows FA FB FS FP FG FO FR
def sp_law(K:W.Frag):Sp:=fun vs H Q _=>∃(a:Addr)(ns:List Int),vs=[.ref a]/\SqL K H a (ns.map V.int)/\ns.length<=63/\(∀z∈ns,Builtin.Int.intBits z<=2 ^ 20)/\∀H',Q (.bl true) H'
def qa:Sp:=fun vs H Q _=>∃c k:Int,vs=[.int c,.int k]/\Builtin.Int.intBits c<=2 ^ 20/\0<=k/\k<=1000/\Q (.int (d3 c k)) H
theorem iL{c k:Int}{H:Hp}{Q:VK}{E:XK}:qa [.int c,.int k] H Q E=(Builtin.Int.intBits c<=2 ^ 20/\0<=k/\k<=1000/\Q (.int (d3 c k)) H):=propext ⟨by rintro ⟨_,_,e,q⟩;cases e;exact q,by intro q;exact zAD c k rfl q⟩
section
variable {P:Program} {w:World} {K:W.Frag} {mg:Str->Option Value} {base:Heap} {t:Ad}
theorem kl(T:Txt K mg t):FnOk P w K mg base CX0 1 t.f_143 t.e_143 ["_law_cell","_law_k"] qa:=by
 refine T.d_143.F.ok sc_143 ∅ ?_;rintro cdv A outer s H vs Q E hr ⟨c,k,rfl,hb,k0,k1,q⟩;refine ⟨_,
   (XSs.h
   (ai
    (aG (ap GH (yqv 0 vl) (av uG aj aj) (aA _))
     (ak
      (aw (av aX (av bh (av gL (yqv 0 vl) (av uG aj aj)) (av eK aj (av d8 aj (av aX (yqv 1 vl) aj)))) (av eK aj aj))))
     aD)
   (ai
    (au (i:=2) sc_143.nd rfl ll (av aX (av d8 (av bo (av bo (av bo (av zW (yqv 0 vl) (yqv 0 vl)) (av d8 aj (yqv 0 vl))) (av d8 aj (yqv 1 vl))) aj) aj) aj))
   (ak
    (aw (av aX (av bo (av d8 (yqv 2 vl) (yqv 2 vl)) aj) aj)))))),?_⟩
 rw [show aP _ [V.int c,V.int k]=[some (.int c),some (.int k),none] from rfl];rwa [];unfold d3 at q;have cp:uS 10 40:=zAB Jx Jx Jx
 refine ⟨cp,aB (fun e=>?_) (fun e=>?_)⟩
 ·rw [if_pos e] at q;have m0:0<=k % 60:=eO _ Jx;have m1:k % 60<60:=gc _ Jx;refine zAR cp (.inl ⟨Jx,Jx⟩) (zAB Jy Jy Jx) (CDivB.pow Jy) (zAB Jx Jx Jx) Jx q
 ·rw [if_neg e] at q;have n0:0<=(c * c+3 * c+7919 * k+1) * 48271 % 2147483629:=eO _ Jx;have n1:(c * c+3 * c+7919 * k+1) * 48271 % 2147483629<2147483629:=gc _ Jx;refine zAQ (Bc hb) (.inl ⟨Jx,Jx⟩) (.inl ⟨Jx,Jx⟩) (.inr ⟨Jx,Jx⟩) (.inl ⟨Jy,Jy⟩) q
def qc:Sp:=fun vs H Q _=>∃c:Int,vs=[.int c]/\Builtin.Int.intBits c<=2 ^ 20/\∀p H',Same H H'->H p=none->H' p=some (.lst ((cv c).map V.str))->Q (.ref p) H'
theorem u7{c:Int}{H:Hp}{Q:VK}{E:XK}:qc [.int c] H Q E=(Builtin.Int.intBits c<=2 ^ 20/\∀p H',Same H H'->H p=none->H' p=some (.lst ((cv c).map V.str))->Q (.ref p) H'):=propext ⟨by rintro ⟨_,e,q⟩;cases e;exact q,by intro q;exact zn c rfl q⟩
theorem ya(T:Txt K mg t):FnOk P w K mg base CX0 2 t.f_144 t.e_144 ["_law_cell"] qc:=by
 have G_143:=@kl P w K mg base t T;refine T.d_144.F.ok sc_144 ∅ ?_;rintro cdv A outer s H vs Q E hr ⟨c,rfl,hb,q⟩;refine ⟨_,
   (XSs.h
   (ai
    (au (i:=1) sc_144.nd rfl ll aF)
   (ai
    (au (i:=2) sc_144.nd rfl ll (ax T.d_143 G_143 hr.m (aa (yqv 0 vl) (aa aj ae)) gl))
   (ai
    (au (i:=3) sc_144.nd rfl ll (av bo aj (av aX (yqv 2 vl) aj)))
   (ai
    (au (i:=4) sc_144.nd rfl ll (av aX (av bh (yqv 2 vl) aj) (yqv 3 vl)))
   (ai
    (au (i:=5) sc_144.nd rfl ll (aN ae))
   (ai
    (bG PassesOwn.never rfl (cQ gl T.z_range (aa aj ae)) (aC (i:=6) sc_144.nd rfl ll)
     (ai
      (au (i:=7) sc_144.nd rfl ll aF)
     (ai
      (bG PassesOwn.never rfl (cQ gl T.z_range (aa (yqv 3 vl) ae)) (aC (i:=8) sc_144.nd rfl ll)
       (ai
        (au (i:=9) sc_144.nd rfl ll (av bo (av bo (av bh (yqv 2 vl) aj) (av d8 (yqv 8 vl) (yqv 8 vl))) (av d8 (ck j3 gl T.z_int boot_int (aa (bP aZ (yqv 8 vl) (yqv 4 vl) (aA _)) ae)) (yqv 6 vl))))
       (ak
        (au (i:=7) sc_144.nd rfl ll (av rC (yqv 7 vl) (aq En (yqv 1 vl) (av aX (yqv 9 vl) aj)))))))
     (ak
      (aR (cg PySem.F.plainAttrs_list PySem.F.slot_list_append PySem.F.type_list_append bg (yqv 5 vl) (aa (yqv 7 vl) ae)))))))
   (ai
    (aG (ap aZ (av aX (av bh (yqv 2 vl) aj) aj) aj (aA _))
     (ak
      (au (i:=5) sc_144.nd rfl ll (aN (cV JA))))
     aD)
   (ak
    (aw (yqv 5 vl))))))))))),?_⟩
 rw [show aP _ [V.int c]=[some (.int c),none,none,none,none,none,none,none,none,none] from rfl];rwa [iL];refine zAG hb Jx Jx ?_;unfold cv at q;have m0:=pA c 3;generalize d3 c 3=m at m0 q ⊢;have z0:0<=m % 6:=eO _ Jx;have z1:m % 6<6:=gc _ Jx;have l0:0<=m / 6 % (1+m % 6):=eO _ Jy;refine ⟨CDivB.small Jx Jx,Jy,fun p0 hp0=>⟨Jx,Jx,gu (fun i σ H'=>Same H H'/\H' p0=some (.lst ((nms m i).map V.str))/\∃o6 o7 o8 o9,σ=[some (.int c),some (.str "abcdefghijklmnopqrstuvwxyz"),some (.int m),some (.int (1+m % 6)),some (.int (m / 6 % (1+m % 6))),some (.ref p0),o6,o7,o8,o9])
  (zAB (Same.upd hp0) ac (zBM _ _ _ _ rfl)) ?_ ?_⟩⟩
 ·rintro i σ H' hi ⟨sm,hl,o6,o7,o8,o9,rfl⟩;rwa [];refine ⟨Jy,Jy,gu (fun j σ H2=>H2=H'/\∃o8 o9,σ=[some (.int c),some (.str "abcdefghijklmnopqrstuvwxyz"),some (.int m),some (.int (1+m % 6)),some (.int (m / 6 % (1+m % 6))),some (.ref p0),some (.int i),some (.str (nm m (m / 6 % (1+m % 6)) i j)),o8,o9])
   ⟨rfl,zAJ _ _ rfl⟩ ?_ ?_⟩
  ·rintro j σ H2 hj ⟨rfl,o8,o9,rfl⟩;rwa [];have hi8:i<8:=hi;have hb1:(if decide ((j:Int)=m / 6 % (1+m % 6))=true then (1:Int) else 0)=0\/(if decide ((j:Int)=m / 6 % (1+m % 6))=true then (1:Int) else 0)=1:=by
    split
    ·exact .inr rfl
    ·exact .inl rfl
   refine zAI (CDivB.small Jx Jx) (.inl ⟨Jy,by omega +splitNatSub⟩) (.inl ⟨Jy,Jy⟩) Jv (zAC _ (Ew _) ?_ (zAJ _ _ rfl));rw [rn];show j+1<=sizeLine;rw [sizeLine_eq];omega
  ·rintro σ H2 ⟨rfl,o8,o9,rfl⟩;rwa [];have hi8:i<8:=hi;refine ⟨.inl ⟨rfl,_,SqL.of hl⟩,zAZ _ hl ?_ (fun b o e=>?_) ?_ (zBM _ _ _ _ rfl)⟩
   ·rw [zq1];unfold nms;rw [zq1,fc,sizeLine_eq];omega
   ·rw [ao (am e hp0)];exact sm b o e
   ·rw [ac,xQ,cy];rfl
 ·rintro σ H' ⟨sm,hl,o6,o7,o8,o9,rfl⟩;rwa [];refine ⟨CDivB.small Jx Jx,aB (fun e=>?_) (fun e=>?_)⟩
  ·rw [if_pos e] at q;intro p hp;exact q p _ (sm.trans (Same.upd hp)) (sm.free hp) ac
  ·rw [if_neg e] at q;exact q p0 H' sm hp0 hl
def qQ(K:W.Frag)(m:Int)(w:Int)(a:Addr)(H:Hp)(Q:VK):Prop:=∃(ns:List Str),SqL K H a (ns.map V.str)/\0<=w/\w<=8/\Q (ni m ns w) H
def kG(K:W.Frag):Sp:=fun vs H Q _=>∃(m:Int)(w:Int)(a:Addr),vs=[.int m,.ref a,.int w]/\qQ K m w a H Q
theorem rp(T:Txt K mg t):FnOk P w K mg base CX0 1 t.f_145 t.e_145 ["_law_mixed_here","_law_names_here","_law_width"] (kG K):=by
 refine T.d_145.F.ok Gk ∅ ?_;rintro cdv A outer s H vs Q E hr ⟨m,w,a,rfl,ns,hS,w0,w8,q⟩;refine ⟨_,
   (XSs.h
   (ai
    (aG (cw (cI (ap ij (av aX (yqv 0 vl) aj) aj (aA _)) (cr (ap ij (aK aJ gl T.z_len PySem.boot_len (aa (yqv 1 vl) ae)) aj (aA _)))))
     (ak
      (aw (aq b7 (yqv 1 vl) (av aX (av bh (yqv 0 vl) aj) (aK aJ gl T.z_len PySem.boot_len (aa (yqv 1 vl) ae))))))
     aD)
   (ak
    (aw (av aX (av bh (yqv 0 vl) aj) (av eK aj (yqv 2 vl))))))),?_⟩
 rw [show aP _ [V.int m,V.ref a,V.int w]=[some (.int m),some (.ref a),some (.int w)] from rfl];rwa [];unfold ni at q;have np:(0:Int)<1 * 2 ^ w.toNat:=by rw [nR];exact qH Jx
 refine aB (fun e=>?_) (fun e=>?_)
 ·refine zn _ (.inl hS) (aB (fun e2=>?_) (fun e2=>?_))
  ·rw [zq1] at e2;have hn:¬ns=[]:=fun z=>by rw [z] at e2;simp at e2
   rw [if_pos ⟨e,hn⟩] at q;refine ⟨CDivB.small Jx Jx,zAC _ (.inl hS) ?_ (zAA _ _ hS ?_ q)⟩
   ·rw [zq1];exact e2
   ·rw [zq1];exact nu hn
  ·rw [zq1] at e2;have hn:ns=[]:=zq42.mp Jy;rw [if_neg (fun z=>z.2 hn)] at q;exact zAG (CDivB.small Jx Jx) (zAB Jy Jy Jx) np q
 ·rw [if_neg (fun z=>e z.1)] at q;exact zAG (CDivB.small Jx Jx) (zAB Jy Jy Jx) np q
theorem vX{m w:Int}{a:Addr}{H:Hp}{Q:VK}{E:XK}:kG K [.int m,.ref a,.int w] H Q E=∃ns,SqL K H a (ns.map V.str)/\0<=w/\w<=8/\Q (ni m ns w) H:=propext ⟨by rintro ⟨_,_,_,e,q⟩;cases e;exact q,fun q=>zAK _ _ _ rfl q⟩
def AO(K:W.Frag)(m:Int)(w:Int)(a:Addr)(H:Hp)(Q:VK):Prop:=∃(ns:List Str),SqL K H a (ns.map V.str)/\0<=w/\w<=8/\∀p H',Same H H'->H p=none->H' p=some (.tup (oM m ns w))->Q (.ref p) H'
def ue(K:W.Frag):Sp:=fun vs H Q _=>∃(m:Int)(w:Int)(a:Addr),vs=[.int m,.ref a,.int w]/\AO K m w a H Q
theorem Bh(T:Txt K mg t):FnOk P w K mg base CX0 2 t.f_146 t.e_146 ["_law_mixed_here","_law_names_here","_law_width"] (ue K):=by
 have G_145:=@rp P w K mg base t T;refine T.d_146.F.ok sc_146 ∅ ?_;rintro cdv A outer s H vs Q E hr ⟨m,w,a,rfl,ns,hS,w0,w8,q⟩;refine ⟨_,
   (XSs.h
   (ai
    (au (i:=3) sc_146.nd rfl ll (ax T.d_145 G_145 hr.m (aa (av bh (yqv 0 vl) aj) (aa (yqv 1 vl) (aa (yqv 2 vl) ae))) gl))
   (ai
    (aG (cw (ii (ap aZ (av aX (yqv 0 vl) aj) aj (aA _)) (gJ (ap aZ (aK aJ gl T.z_len PySem.boot_len (aa (yqv 1 vl) ae)) aj (aA _)))))
     (ak
      (aw (aI (aa aF (aa (yqv 3 vl) ae)))))
     aD)
   (ai
    (au (i:=4) sc_146.nd rfl ll (aq b7 (yqv 1 vl) (av aX (av bh (yqv 0 vl) aj) (aK aJ gl T.z_len PySem.boot_len (aa (yqv 1 vl) ae)))))
   (ai
    (aG (ap aZ (av aX (yqv 0 vl) aj) aj (aA _))
     (ak
      (aw (aI (aa aF (aa (yqv 4 vl) (aa (yqv 3 vl) ae))))))
     aD)
   (ai
    (au (i:=5) sc_146.nd rfl ll (aq b7 (aN (cV JA)) (av gL (av aX (yqv 0 vl) aj) aj)))
   (ak
    (aw (aI (aa (yqv 5 vl) (aa (yqv 4 vl) (aa (yqv 3 vl) (aa (ax T.d_145 G_145 hr.m (aa (av bh (yqv 0 vl) aj) (aa (yqv 1 vl) (aa (yqv 2 vl) ae))) gl) ae))))))))))))),?_⟩
 rw [show aP _ [V.int m,V.ref a,V.int w]=[some (.int m),some (.ref a),some (.int w),none,none,none] from rfl];rwa [vX];unfold oM at q;have n0:0<=m % 9:=eO _ Jx;have n1:m % 9<9:=gc _ Jx;have cd:∀z,0<z->z<1073741824->CDivB m z:=fun z h1 h2=>CDivB.small h1 h2;refine ⟨cd _ Jx Jx,zAF ns hS w0 w8 (aB (fun e=>?_) (fun e=>?_))⟩
 ·rw [if_pos (.inl e)] at q;intro p hp;exact q p _ (Same.upd hp) hp ac
 ·refine zn _ (.inl hS) (aB (fun e2=>?_) (fun e2=>?_))
  ·rw [zq1] at e2;rw [if_pos (.inr (zq42.mp Jy))] at q;intro p hp;exact q p _ (Same.upd hp) hp ac
  ·rw [zq1] at e2;have hn:¬ns=[]:=fun z=>e2 (by rw [z];rfl);rw [if_neg (fun z=>z.elim e hn)] at q;refine ⟨cd _ Jx Jx,zAC _ (.inl hS) ?_ (zAA _ _ hS (by rw [zq1];exact nu hn) (aB (fun e3=>?_) (fun e3=>?_)))⟩
   ·rw [zq1];have:=zq47.mpr hn;omega
   ·rw [if_pos e3] at q;intro p hp;exact q p _ (Same.upd hp) hp ac
   ·rw [if_neg e3] at q;intro p hp;refine zAE _ _ (SqL.of ac) (EN Jy Jy) (cd _ Jx Jx) (zAF ns ((Same.upd hp).seq hS) w0 w8 fun p2 hp2=>?_);exact q p2 _ ((Same.upd hp).trans (Same.upd hp2)) ((Same.upd hp).free hp2) ac
theorem rN{m w:Int}{a:Addr}{H:Hp}{Q:VK}{E:XK}:ue K [.int m,.ref a,.int w] H Q E=∃ns,SqL K H a (ns.map V.str)/\0<=w/\w<=8/\∀p H',Same H H'->H p=none->H' p=some (.tup (oM m ns w))->Q (.ref p) H':=propext ⟨by rintro ⟨_,_,_,e,q⟩;cases e;exact q,fun q=>zAK _ _ _ rfl q⟩
def AQ(K:W.Frag)(S:Addr)(y:V)(H:Hp)(Q:VK):Prop:=∃(H0:Hp)(xs:List V)(e:Ent)(es:List Ent)(f:List Addr)(g:List Addr)(r:Stm)(B:Nat),Same H0 H/\H S=some (.lst xs)/\StkV K H xs (e::es) f/\StmV K H y r g/\(S::(f++g)).Nodup/\(∀a∈S::(f++g),H0 a=none)/\
 (∀e'∈e::es,e'.rows.length<=B)/\B<=10000/\∀H',dD K H0 H' S (e.add r::es) (B+1)->Q .non H'
def ui(K:W.Frag):Sp:=fun vs H Q _=>∃(S:Addr)(y:V),vs=[.ref S,y]/\AQ K S y H Q
theorem tI(T:Txt K mg t):FnOk P w K mg base CX0 1 t.f_147 t.e_147 ["_law_stack","_law_row"] (ui K):=by
 refine T.d_147.F.ok Gm ∅ ?_;rintro cdv A outer s H vs Q E hr ⟨S,y,rfl,H0,xs,e,es,f,g,r,B,sm,hS,hK,hy,nd,fr0,few,hB,q⟩;refine ⟨_,
   (XSs.h
   (ak
    (aR (cg PySem.F.plainAttrs_list PySem.F.slot_list_append PySem.F.type_list_append bg (aq az (aq b7 (yqv 0 vl) (g7 eL aj)) aj) (aa (yqv 1 vl) ae))))),?_⟩
 rw [show aP _ [V.ref S,y]=[some (.ref S),some y] from rfl];obtain ⟨xs',x,f',g',rfl,rfl,h1,h2⟩:=hK.inv;obtain ⟨qq,a,o,ys,zs,fa,fo,rfl,hq,ha,hr1,ho,hr2,rfl⟩:=h2;rwa [];refine zAA _ _ (SqL.of hS) fN ?_;rwa [];refine zAE _ _ hq rfl (.inl ⟨rfl,_,SqL.of ha⟩) ?_;rwa [];have ly:=hr1.length;have lB:=few e Jz;have nd':(S::((a::o::((fa++g)++fo))++f')).Nodup:=by
  refine (List.Perm.nodup_iff ?_).mp nd;refine .cons _ (.cons _ (.cons _ ?_));show ((fa++fo)++f'++g).Perm ((fa++g++fo)++f');have e1:(fa++fo)++f'++g=fa++((fo++f')++g):=by simp only [List.append_assoc]
  have e2:(fa++g++fo)++f'=fa++(g++(fo++f')):=by simp only [List.append_assoc]
  rw [e1,e2];exact List.Perm.append_left fa Al
 have mem':∀b,b∈S::((a::o::((fa++g)++fo))++f')->b∈S::((a::o::(fa++fo))++f'++g):=fun b hb=>by simp only [List.mem_cons,List.mem_append] at hb ⊢;rcases hb with z | (z | z | (z | z) | z) | z<;>simp [z]
 have nS:¬S=a:=fun z=>by subst z;simp at nd
 have na:a∉(o::((fa++g)++fo))++f':=(zq25.mp (zq25.mp nd').2).1;have naf:a∉f':=fun z=>na (dC _ z);have nao:¬o=a:=fun z=>na (by rw [<- z];simp);have nafa:a∉fa:=fun z=>na (by simp [z]);have nag:a∉g:=fun z=>na (by simp [z]);have nafo:a∉fo:=fun z=>na (by simp [z]);have tt:TSame H (upd H a (.lst (ys++[y]))):=TSame.updL ha;refine zAC ys ha (by rw [sizeLine_eq];omega) (q _ ⟨sm.updM (fr0 a Jz),zAE (xs'++[.ref qq]) _ (by rw [ao nS];exact hS) (.snoc (h1.keep tt (Kept.upd naf)) (zBC qq a o (ys++[y]) zs (fa++g) fo rfl (tt.seqT hq) ac ((hr1.keep tt (Kept.upd nafa)).snoc (hy.keep tt (Kept.upd nag))) (by rw [ao nao];exact ho) (hr2.keep tt (Kept.upd nafo)) rfl)) nd' fun b hb=>fr0 b (mem' b hb),fun e' he'=>?_⟩);rcases zq5.mp he' with z | z
 ·subst z;show (e.rows++[r]).length<=B+1;simp;omega
 ·have:=few e' (zq6 _ z);omega
def uV(K:W.Frag)(S:Addr)(H:Hp)(Q:VK):Prop:=∃(H0:Hp)(e:Ent)(e2:Ent)(es:List Ent)(B:Nat),dD K H0 H S (e::e2::es) B/\B<=10000/\∀H',dD K H0 H' S (fg (e::e2::es)) (B+1)->Q .non H'
def mn(K:W.Frag):Sp:=fun vs H Q _=>∃(S:Addr),vs=[.ref S]/\uV K S H Q
theorem ja{S:Addr}{y:V}{H:Hp}{Q:VK}{E:XK}:ui K [.ref S,y] H Q E=∃(H0:Hp)(xs:List V)(e:Ent)(es:List Ent)(f g:List Addr)(r:Stm)(B:Nat),Same H0 H/\H S=some (.lst xs)/\StkV K H xs (e::es) f/\StmV K H y r g/\(S::(f++g)).Nodup/\(∀a∈S::(f++g),H0 a=none)/\
 (∀e'∈e::es,e'.rows.length<=B)/\B<=10000/\∀H',dD K H0 H' S (e.add r::es) (B+1)->Q .non H':=propext ⟨by rintro ⟨_,_,e,q⟩;cases e;exact q,fun q=>zAD _ _ rfl q⟩
theorem vG(T:Txt K mg t):FnOk P w K mg base CX0 2 t.f_148 t.e_148 ["_law_stack"] (mn K):=by
 have G_147:=@tI P w K mg base t T;refine T.d_148.F.ok sc_148 ∅ (fun cdv A outer s H vs Q E hr h=>?_);obtain ⟨S,rfl,H0,e,e2,es,B,⟨sm,⟨xs,f,hS,hK,nd,fr0⟩,few⟩,hB,q⟩:=h;refine ⟨_,
   (XSs.h
   (ai
    (fG (jK PySem.F.plainAttrs_list PySem.F.slot_list_pop PySem.F.type_list_pop mZ (yqv 0 vl)) (dP rfl (aU (aC (i:=1) sc_148.nd rfl ll) (aU (aC (i:=2) sc_148.nd rfl ll) (aU (aC (i:=3) sc_148.nd rfl ll) (aU (aC (i:=4) sc_148.nd rfl ll) d6))))))
   (ak
    (aG (ap aZ (yqv 1 vl) aF (aA _))
     (ak
      (aR (ax T.d_147 G_147 hr.m (aa (yqv 0 vl) (aa (aI (aa aF (aa (yqv 3 vl) (aa (yqv 2 vl) ae)))) ae)) gl)))
     (ak
      (aG (ap aZ (yqv 1 vl) aF (aA _))
       (ak
        (aR (ax T.d_147 G_147 hr.m (aa (yqv 0 vl) (aa (aI (aa aF (aa (yqv 3 vl) (aa (yqv 2 vl) (aa (aN ae) ae))))) ae)) gl)))
       (ak
        (aR (ax T.d_147 G_147 hr.m (aa (yqv 0 vl) (aa (aI (aa aF (aa (yqv 3 vl) (aa (yqv 4 vl) (aa (yqv 2 vl) ae))))) ae)) gl))))))))),?_⟩
 rw [show aP _ [V.ref S]=[some (.ref S),none,none,none,none] from rfl];obtain ⟨xs',x,f',g',rfl,rfl,h1,h2⟩:=hK.inv;obtain ⟨qq,a,o,ys,zs,fa,fo,rfl,hq,ha,hr1,ho,hr2,rfl⟩:=h2;rwa [ja];refine ⟨.inl ⟨rfl,_,SqL.of hS⟩,zAA _ (.ref qq) hS Jz ?_⟩;rwa [ja];have tS:∀o',TSame H (upd H S o'):=fun o'=>TSame.updL hS;have nS:S∉(a::o::(fa++fo))++f':=(zq25.mp nd).1;have ndf:=(zq25.mp nd).2;have nSf:S∉f':=fun z=>nS (dC _ z);have nSa:¬a=S:=fun z=>nS (by rw [z];simp);have nSo:¬o=S:=fun z=>nS (by rw [z];simp);have nSfa:S∉fa:=fun z=>nS (by simp [z]);have nSfo:S∉fo:=fun z=>nS (by simp [z]);have edl:(xs'++[V.ref qq]).dropLast=xs':=by simp
 rw [edl];have tt:=tS (.lst xs');have s1:Same H0 (upd H S (.lst xs')):=sm.updM (fr0 S Jz);have k1:=h1.keep tt (Kept.upd nSf);have r1:=hr1.keep tt (Kept.upd nSfa);have r2:=hr2.keep tt (Kept.upd nSfo);have ha1:upd H S (.lst xs') a=some (.lst ys):=by rw [ao nSa];exact ha
 have ho1:upd H S (.lst xs') o=some (.lst zs):=by rw [ao nSo];exact ho
 have few':∀e'∈e2::es,e'.rows.length<=B:=fun e' he=>few e' (zq6 _ he);have q':∀H',dD K H0 H' S (e2.add (cB e)::es) (B+1)->Q .non H':=q;have sub:∀(g:List Addr),(∀b∈g,b∈a::o::(fa++fo))->∀b∈S::(f'++g),b∈S::((a::o::(fa++fo))++f'):=fun g hg b hb=>by
  rcases zq5.mp hb with z | z
  ·rw [z];simp
  ·rcases zq11.mp z with z | z
   ·exact zq6 _ (dC _ z)
   ·exact zq6 _ (jD _ (hg b z))
 have nds:∀(g:List Addr),g.Sublist (a::o::(fa++fo))->(S::(f'++g)).Nodup:=fun g hg=>by
  have h3:(g++f').Nodup:=ndf.sublist (List.Sublist.append hg (List.Sublist.refl _));have h4:(f'++g).Nodup:=(List.Perm.nodup_iff Al).mp h3;refine zq25.mpr ⟨fun z=>?_,h4⟩;rcases zq11.mp z with z | z
  ·exact nSf z
  ·exact nS (jD _ (hg.subset z))
 refine zAC _ (tt.seqT hq) rfl ?_;rwa [ja];have ee:cB e=.ifs e.name e.ones e.rows->∀p,upd H S (.lst xs') p=none->∃(H0_1:Hp)(xs:List V)(e_1:Ent)(es_1:List Ent)(f g:List Addr)(r:Stm)(B_1:Nat),Same H0_1 (upd (upd H S (.lst xs')) p (.tup [V.str "if",V.str e.name,V.ref o,V.ref a]))/\upd (upd H S (.lst xs')) p (.tup [V.str "if",V.str e.name,V.ref o,V.ref a]) S=some (.lst xs)/\
   StkV K (upd (upd H S (.lst xs')) p (.tup [V.str "if",V.str e.name,V.ref o,V.ref a])) xs (e_1::es_1) f/\StmV K (upd (upd H S (.lst xs')) p (.tup [V.str "if",V.str e.name,V.ref o,V.ref a])) (.ref p) r g/\(S::(f++g)).Nodup/\(∀b∈S::(f++g),H0_1 b=none)/\(∀e'∈e_1::es_1,e'.rows.length<=B_1)/\B_1<=10000/\
   ∀H',dD K H0_1 H' S (e_1.add r::es_1) (B_1+1)->Q .non H':=by
  intro hcl p hp;have s2:=Same.upd (o:=.tup [V.str "if",V.str e.name,V.ref o,V.ref a]) hp;rw [hcl] at q';have pm:(o::a::(fo++fa)).Perm (a::o::(fa++fo)):=(List.Perm.swap a o _).trans (.cons _ (.cons _ Al));refine zBJ H0 xs' e2 es f' (o::a::(fo++fa)) (.ifs e.name e.ones e.rows) B (s1.trans s2) (s2 _ _ ac) (k1.keep s2.ts (Kept.of s2)) (.ifs (SqT.of ac) (s2 _ _ ho1) (s2 _ _ ha1) (r2.same s2) (r1.same s2)) ?_ (fun b hb=>fr0 b (sub _ (fun b hb=>pm.mem_iff.mp hb) b hb)) few' hB q';refine (List.Perm.nodup_iff (.cons _ ?_)).mp (nds _ (List.Sublist.refl _));exact List.Perm.append_left _ pm.symm
 cases hkd:e.kind with
 |whl=>
  refine aB (fun _=>fun p hp=>?_) (fun z=>absurd rfl z);have s2:=Same.upd (o:=.tup [V.str "while",V.str e.name,V.ref a]) hp;have hcl:cB e=.whl e.name e.rows:=by unfold cB;rw [hkd]
  rw [hcl] at q';refine zBJ H0 xs' e2 es f' (a::fa) (.whl e.name e.rows) B (s1.trans s2) (s2 _ _ ac) (k1.keep s2.ts (Kept.of s2)) (.whl (SqT.of ac) (s2 _ _ ha1) (r1.same s2)) (nds _ ?_) (fun b hb=>fr0 b (sub _ ?_ b hb)) few' hB q'
  ·exact .cons_cons _ (.cons _ (AE _ _))
  ·intro b hb;simp at hb ⊢;rcases hb with z | z<;>simp [z]
 |iff=>
  refine aB (fun z=>absurd z Jv) (fun _=>aB (fun _=>fun p hp p2 hp2=>?_) (fun z=>absurd rfl z));have s2:=Same.upd (o:=.lst []) hp;have s3:=Same.upd (o:=.tup [V.str "if",V.str e.name,V.ref a,V.ref p]) hp2;have s23:=s2.trans s3;have hcl:cB e=.ifs e.name e.rows []:=by unfold cB;rw [hkd]
  rw [hcl] at q';have np:∀b,b∈S::((a::o::(fa++fo))++f')->¬p=b:=fun b hb z=>by
   have ex:∃u,upd H S (.lst xs') b=some u:=by
    rcases zq5.mp hb with y | y
    ·exact ⟨_,by rw [y];exact ac⟩
    rcases zq11.mp y with y | y
    ·rcases zq5.mp y with y | y
     ·exact ⟨_,by rw [y];exact ha1⟩
     rcases zq5.mp y with y | y
     ·exact ⟨_,by rw [y];exact ho1⟩
     rcases zq11.mp y with y | y
     ·obtain ⟨_,h⟩:=r1.tracked b y;exact ⟨_,h⟩
     ·obtain ⟨_,h⟩:=r2.tracked b y;exact ⟨_,h⟩
    ·obtain ⟨_,h⟩:=k1.tracked b y;exact ⟨_,h⟩
   obtain ⟨u,hu⟩:=ex;exact am hu hp z.symm
  have sa:∀b∈S::(f'++(a::fa)),b∈S::((a::o::(fa++fo))++f'):=sub _ (fun b hb=>by simp at hb ⊢;rcases hb with z | z<;>simp [z]);refine ⟨H0,xs',e2,es,f',a::p::(fa++[]),.ifs e.name e.rows [],B,s1.trans s23,s23 _ _ ac,k1.keep s23.ts (Kept.of s23),.ifs (SqT.of ac) (s23 _ _ ha1) (s3 _ _ ac) (r1.same s23) .nil,?_,fun b hb=>?_,few',hB,q'⟩
  ·have h5:(p::(S::(f'++(a::fa)))).Nodup:=zq25.mpr ⟨fun z=>np p (sa p z) rfl,nds _ (.cons_cons _ (.cons _ (AE _ _)))⟩;refine (List.Perm.nodup_iff ?_).mp h5;rw [gQ];refine (List.Perm.swap S p _).trans (.cons _ ?_);have e1:f'++a::p::fa=(f'++[a])++p::fa:=by simp
   have e2:f'++a::fa=(f'++[a])++fa:=by simp
   rw [e1,e2];exact List.perm_middle.symm
  ·by_cases hbp:b=p
   ·rw [hbp];exact s1.free hp
   ·refine fr0 b (sa b ?_);simp at hb ⊢;rcases hb with z | z | z | z | z
    ·exact .inl z
    ·exact .inr (.inl z)
    ·exact .inr (.inr (.inl z))
    ·exact absurd z hbp
    ·exact .inr (.inr (.inr z))
 |all=>
  refine aB (fun z=>absurd z Jv) (fun _=>aB (fun z=>absurd z Jv) (fun _=>fun p hp=>?_));exact ee (by unfold cB;rw [hkd]) p hp
 |els=>refine aB (fun z=>absurd z Jv) (fun _=>aB (fun z=>absurd z Jv) (fun _=>fun p hp=>?_));exact ee (by unfold cB;rw [hkd]) p hp
def qR(K:W.Frag)(a:Addr)(b:Addr)(w:Int)(most:Int)(H:Hp)(Q:VK):Prop:=∃(cs:List Int)(ns:List Str),SqL K H a (cs.map V.int)/\cs.length<=63/\(∀z∈cs,Builtin.Int.intBits z<=2 ^ 20)/\SqL K H b (ns.map V.str)/\0<=w/\w<=8/\
 ∀p xs f H',Same H H'->H' p=some (.lst xs)->StmsV K H' xs (hV cs ns w most) f->(p::f).Nodup->(∀c∈p::f,H c=none)->Q (.ref p) H'
def kH(K:W.Frag):Sp:=fun vs H Q _=>∃(a:Addr)(b:Addr)(w:Int)(most:Int),vs=[.ref a,.ref b,.int w,.int most]/\qR K a b w most H Q
theorem iJ{S:Addr}{H:Hp}{Q:VK}{E:XK}:mn K [.ref S] H Q E=∃(H0:Hp)(e e2:Ent)(es:List Ent)(B:Nat),dD K H0 H S (e::e2::es) B/\B<=10000/\∀H',dD K H0 H' S (fg (e::e2::es)) (B+1)->Q .non H':=propext ⟨by rintro ⟨_,e,q⟩;cases e;exact q,fun q=>zn _ rfl q⟩
theorem rq(T:Txt K mg t):FnOk P w K mg base CX0 4 t.f_149 t.e_149 ["_law_cells","_law_names_here","_law_width","_law_most"] (kH K):=by
 have G_143:=@kl P w K mg base t T;have G_146:=@Bh P w K mg base t T;have G_147:=@tI P w K mg base t T;have G_148:=@vG P w K mg base t T;refine T.d_149.F.ok sc_149 ∅ ?_;rintro cdv A outer s H vs Q E hr ⟨a,b,w,most,rfl,cs,ns,hA,lcs,bcs,hB,w0,w8,q⟩;refine ⟨_,
   (XSs.h
   (ai
    (au (i:=4) sc_149.nd rfl ll (aN (aa (aI (aa aF (aa (aN ae) (aa aF (aa (aN ae) ae))))) ae)))
   (ai
    (au (i:=5) sc_149.nd rfl ll aj)
   (c7
    (bG PassesOwn.never rfl (kO T.z_enumerate (aa (yqv 0 vl) ae) gl) (dP rfl (aU (aC (i:=6) sc_149.nd rfl ll) (aU (aC (i:=7) sc_149.nd rfl ll) d6)))
     (ai
      (au (i:=8) sc_149.nd rfl ll (ax T.d_143 G_143 hr.m (aa (yqv 7 vl) (aa (yqv 6 vl) ae)) gl))
     (ai
      (au (i:=9) sc_149.nd rfl ll (av aX (yqv 8 vl) aj))
     (ak
      (aG (cw (cI (ap g9 (yqv 9 vl) aj (aA _)) (cr (ap ij (aK aJ gl T.z_len PySem.boot_len (aa (yqv 4 vl) ae)) aj (aA _)))))
       (ak
        (aG (cw (cI (ap aZ (yqv 9 vl) aj (aA _)) (cr (ap aZ (aq az (aq b7 (yqv 4 vl) (g7 eL aj)) aj) aF (aA _)))))
         (ai
          (fG (jK PySem.F.plainAttrs_list PySem.F.slot_list_pop PySem.F.type_list_pop mZ (yqv 4 vl)) (dP rfl (aU (aC (i:=10) sc_149.nd rfl ll) (aU (aC (i:=11) sc_149.nd rfl ll) (aU (aC (i:=12) sc_149.nd rfl ll) (aU (aC (i:=13) sc_149.nd rfl ll) d6))))))
         (ak
          (aR (cg PySem.F.plainAttrs_list PySem.F.slot_list_append PySem.F.type_list_append bg (yqv 4 vl) (aa (aI (aa aF (aa (aN ae) (aa (yqv 12 vl) (aa (yqv 11 vl) ae))))) ae)))))
         (ak
          (aR (ax T.d_148 G_148 hr.m (aa (yqv 4 vl) ae) gl)))))
       (ak
        (aG (ap g9 (yqv 5 vl) (yqv 3 vl) (aA _))
         (ai
          (au (i:=5) sc_149.nd rfl ll (av bo (yqv 5 vl) aj))
         (ak
          (aG (cw (cI (ap g9 (yqv 9 vl) aj (aA _)) (cI (ap g9 (aK aJ gl T.z_len PySem.boot_len (aa (yqv 4 vl) ae)) aj (aA _)) (cr (ap ij (aK aJ gl T.z_len PySem.boot_len (aa (yqv 1 vl) ae)) aj (aA _))))))
           (ak
            (aR (cg PySem.F.plainAttrs_list PySem.F.slot_list_append PySem.F.type_list_append bg (yqv 4 vl) (aa (aI (aa (aq b7 (aN (cV JA)) (av gL (yqv 9 vl) aj)) (aa (aN ae) (aa (aq b7 (yqv 1 vl) (av aX (av bh (yqv 8 vl) aj) (aK aJ gl T.z_len PySem.boot_len (aa (yqv 1 vl) ae)))) (aa (aN ae) ae))))) ae))))
           (ak
            (aR (ax T.d_147 G_147 hr.m (aa (yqv 4 vl) (aa (ax T.d_146 G_146 hr.m (aa (av bh (yqv 8 vl) aj) (aa (yqv 1 vl) (aa (yqv 2 vl) ae))) gl) ae)) gl))))))
         aD)))))))
   (ai
    (eZ PassesOwn.never (ap ij (aK aJ gl T.z_len PySem.boot_len (aa (yqv 4 vl) ae)) aj (aA _))
     (ak
      (aR (ax T.d_148 G_148 hr.m (aa (yqv 4 vl) ae) gl))))
   (ak
    (aw (aq az (aq b7 (yqv 4 vl) aj) aj)))))))),?_⟩
 rw [show aP _ [V.ref a,V.ref b,V.int w,V.int most]=[some (.ref a),some (.ref b),some (.int w),some (.int most),none,none,none,none,none,none,none,none,none,none] from rfl];rwa [iL,rN,ja,iJ];intro p1 hp1 p2 hp2 p3 hp3 S hS;have s1:Same H (upd H p1 (.lst [])):=Same.upd hp1;have s2:=s1.updN (o:=.lst []) hp2;have s3:=s2.updN (o:=.tup [V.str "all",V.ref p1,V.str "",V.ref p2]) hp3;have s4:=s3.updN (o:=.lst [V.ref p3]) hS;refine ⟨fun σ H'=>(∃B,B<=63/\dD K H H' S (cG ns w most cs 0 start0).1 B/\1<=(cG ns w most cs 0 start0).1.length/\(cG ns w most cs 0 start0).1.length<=9)/\∃o5 o6 o7 o8 o9 o10 o11 o12 o13,σ=[some (.ref a),some (.ref b),some (.int w),some (.int most),some (.ref S),o5,o6,o7,o8,o9,o10,o11,o12,o13],⟨⟨_,s4.seq hA⟩,?_⟩,?_⟩
 ·obtain ⟨Pv,hPv⟩:∃Pv:Nat->L2.St->Hp->Prop,Pv=fun i σ H'=>(dD K H H' S (cG ns w most (cs.take i) 0 start0).1 i/\1<=(cG ns w most (cs.take i) 0 start0).1.length/\(cG ns w most (cs.take i) 0 start0).1.length<=9)/\∃o6 o7 o8 o9 o10 o11 o12 o13,σ=[some (.ref a),some (.ref b),some (.int w),some (.int most),some (.ref S),some (.int (cG ns w most (cs.take i) 0 start0).2),o6,o7,o8,o9,o10,o11,o12,o13]:=⟨_,rfl⟩
  have hI:∀i σ H',((dD K H H' S (cG ns w most (cs.take i) 0 start0).1 i/\1<=(cG ns w most (cs.take i) 0 start0).1.length/\(cG ns w most (cs.take i) 0 start0).1.length<=9)/\∃o6 o7 o8 o9 o10 o11 o12 o13,σ=[some (.ref a),some (.ref b),some (.int w),some (.int most),some (.ref S),some (.int (cG ns w most (cs.take i) 0 start0).2),o6,o7,o8,o9,o10,o11,o12,o13])->Pv i σ H':=by rw [hPv];exact fun _ _ _ h=>h
  have hE:∀i σ H',Pv i σ H'->(dD K H H' S (cG ns w most (cs.take i) 0 start0).1 i/\1<=(cG ns w most (cs.take i) 0 start0).1.length/\(cG ns w most (cs.take i) 0 start0).1.length<=9)/\∃o6 o7 o8 o9 o10 o11 o12 o13,σ=[some (.ref a),some (.ref b),some (.int w),some (.int most),some (.ref S),some (.int (cG ns w most (cs.take i) 0 start0).2),o6,o7,o8,o9,o10,o11,o12,o13]:=by rw [hPv];exact fun _ _ _ h=>h
  clear hPv;refine mP (xs:=cs.map V.int) Pv (hI _ _ _ ?_) (fun i σ H' _ h=>(hE _ _ _ h).1.1.same.seq hA) ?_ ?_
  ·have hp1':upd (upd (upd (upd H p1 (.lst [])) p2 (.lst [])) p3 (.tup [V.str "all",V.ref p1,V.str "",V.ref p2])) S (.lst [V.ref p3]) p1=some (.lst []):=Same.upd hS _ _ (Same.upd hp3 _ _ (Same.upd hp2 _ _ ac));have hp2':upd (upd (upd (upd H p1 (.lst [])) p2 (.lst [])) p3 (.tup [V.str "all",V.ref p1,V.str "",V.ref p2])) S (.lst [V.ref p3]) p2=some (.lst []):=Same.upd hS _ _ (Same.upd hp3 _ _ ac);have hp3':upd (upd (upd (upd H p1 (.lst [])) p2 (.lst [])) p3 (.tup [V.str "all",V.ref p1,V.str "",V.ref p2])) S (.lst [V.ref p3]) p3=some (.tup [V.str "all",V.ref p1,V.str "",V.ref p2]):=Same.upd hS _ _ ac;have n1:¬p1=p2:=fun z=>by rw [z] at hp2;exact absurd hp2 (by rw [ac];exact fun z=>nomatch z)
   have n2:¬p1=S:=fun z=>by rw [<- z] at hS;rw [Same.upd hp3 _ _ (Same.upd hp2 _ _ ac)] at hS;cases hS
   have n3:¬p2=S:=fun z=>by rw [<- z] at hS;rw [Same.upd hp3 _ _ ac] at hS;cases hS
   refine ⟨zAB ⟨s4,zAE ([.ref p3]) ((p1::p2::([]++[]))++[]) ac (StkV.snoc (xs:=[]) .nil (zBC p3 p1 p2 ([]) ([]) ([]) ([]) rfl (SqT.of hp3') hp1' .nil hp2' .nil rfl)) ?_ fun c hc=>?_,fun e he=>?_⟩ (by simp [cG,start0]) (by simp [cG,start0]),zAY _ _ _ _ _ _ _ _ rfl⟩
   ·simp only [List.nodup_cons,List.append_nil,List.cons_append,List.nil_append,List.mem_cons,List.not_mem_nil,or_false,not_or];exact zAB ⟨fun z=>n2 z.symm,fun z=>n3 z.symm⟩ n1 Jz
   ·simp at hc;rcases hc with z | z | z
    ·rw [z];exact s3.free hS
    ·rw [z];exact hp1
    ·rw [z];exact s1.free hp2
   ·have:e=⟨.all,[],"",[]⟩:=by simpa [cG,start0] using he
    rw [this];exact cm _
  ·intro i x σ H' pp hx hpp hv;obtain ⟨⟨⟨sm,⟨xs,f,hSx,hK,nd,fr⟩,few⟩,l1,l9⟩,o6,o7,o8,o9,o10,o11,o12,o13,rfl⟩:=hE _ _ _ hv;clear hv;rw [cn] at hx;obtain ⟨c,hc,rfl⟩:=zq32.mp hx;obtain ⟨hi,hce⟩:=zq10.mp hc;have enx:cG ns w most (cs.take (i+1)) 0 start0=du ns w most i c (cG ns w most (cs.take i) 0 start0):=by rw [eg hi,hce,mj,dS,Nat.zero_add,wL Jy]
   have hN:∀σ H',((dD K H H' S (du ns w most i c (cG ns w most (cs.take i) 0 start0)).1 (i+1)/\1<=(du ns w most i c (cG ns w most (cs.take i) 0 start0)).1.length/\(du ns w most i c (cG ns w most (cs.take i) 0 start0)).1.length<=9)/\∃o6 o7 o8 o9 o10 o11 o12 o13,σ=[some (.ref a),some (.ref b),some (.int w),some (.int most),some (.ref S),some (.int (du ns w most i c (cG ns w most (cs.take i) 0 start0)).2),o6,o7,o8,o9,o10,o11,o12,o13])->Pv (i+1) σ H':=fun σ H' h=>hI _ _ _ (by rw [enx];exact h);clear hI hE enx;generalize cG ns w most (cs.take i) 0 start0=st at hK few l1 l9 hN ⊢;obtain ⟨es,many⟩:=st;rwa [iL,rN,ja,iJ];refine zAC _ (SqT.of ac) rfl ?_;rwa [iL,rN,ja,iJ];refine zAG (bcs c (zq9 hc)) Jy Jy ?_;have s5:Same H' (upd H' pp (.tup [V.int i,V.int c])):=Same.upd hpp;have sm5:=sm.trans s5;have hS5:=s5 _ _ hSx;have hK5:=hK.keep s5.ts (Kept.of s5);have hB5:=sm5.seq hB;generalize upd H' pp (.tup [V.int i,V.int c])=H5 at s5 sm5 hS5 hK5 hB5 ⊢;clear hSx hK;have lx:=hK5.length;have g0:=pA c i;unfold du at hN;generalize d3 c i=g at g0 hN ⊢;have y0:0<=g % 12:=eO _ Jx;have y1:g % 12<12:=gc _ Jx;have trk:∀c'∈S::f,∃u,H5 c'=some u:=fun c' hc'=>by
    rcases zq5.mp hc' with z | z
    ·exact ⟨_,by rw [z];exact hS5⟩
    ·obtain ⟨u,hu⟩:=hK5.tracked c' z;exact ⟨_,hu⟩
   dsimp only at l1 l9 few lx hN;refine E5 (SqL.of hS5) (fun e1 c2=>?_) (fun e1=>?_)
   ·have c1:g % 12<2/\1<es.length:=⟨e1,Jy⟩
    rw [if_pos c1] at hN;obtain ⟨e,e2,es',rfl⟩:∃e e2 es',es=e::e2::es':=by
     match es,c1.2 with
     |e::e2::es',_=>exact zAH e e2 es' rfl
    obtain ⟨xs',x,f',g',rfl,rfl,h1,h2⟩:=hK5.inv;obtain ⟨qq,ra,oo,ys,zs,fa,fo,rfl,hq,ha,hr1,ho,hr2,rfl⟩:=id h2;refine wY (SqL.of hS5) hq (fun e3 e4=>?_) (fun e3=>?_)
    ·dsimp only at hN;rw [if_pos ⟨e3,e4⟩] at hN;refine ⟨.inl ⟨rfl,_,SqL.of hS5⟩,zAA _ (.ref qq) hS5 Jz ?_⟩;rwa [];have edl:(xs'++[V.ref qq]).dropLast=xs':=by simp
     rw [edl];have tt:TSame H5 (upd H5 S (.lst xs')):=TSame.updL hS5;have nS:S∉(ra::oo::(fa++fo))++f':=(zq25.mp nd).1;refine zAC _ (tt.seqT hq) rfl ?_;rwa [];refine ⟨.inl ⟨rfl,_,SqL.of ac⟩,fun u1 hu1 u2 hu2=>?_⟩;have sB:Same H (upd H5 S (.lst xs')):=sm5.updM (fr S Jz);have nSa:¬ra=S:=fun z=>nS (by rw [z];simp);have nSfa:S∉fa:=fun z=>nS (by simp [z]);have nSf:S∉f':=fun z=>nS (by simp [z]);have ha1:upd H5 S (.lst xs') ra=some (.lst ys):=by rw [ao nSa];exact ha
     have k1:=h1.keep tt (Kept.upd (o:=.lst xs') nSf);have r1:=hr1.keep tt (Kept.upd (o:=.lst xs') nSfa);have t1:=Same.upd (o:=.lst []) hu1;have t2:=t1.updN (o:=.tup [V.str "else",V.ref u1,V.str e.name,V.ref ra]) hu2;have nd3:(S::((ra::fa)++f')).Nodup:=by refine nd.sublist (.cons_cons _ (List.Sublist.append (.cons_cons _ (.cons _ (AE _ _))) (List.Sublist.refl _)))
     have sub3:∀c'∈S::((ra::fa)++f'),c'∈S::((ra::oo::(fa++fo))++f'):=fun c' hc'=>by simp only [List.cons_append,List.mem_cons,List.mem_append] at hc' ⊢;rcases hc' with z | z | z | z<;>simp [z]
     have no1:u1∉S::((ra::fa)++f'):=fun z=>by
      have ex:∃u,upd H5 S (.lst xs') u1=some u:=by
       by_cases zS:u1=S
       ·exact ⟨_,by rw [zS];exact ac⟩
       ·obtain ⟨u,hu⟩:=trk u1 (sub3 u1 z);exact ⟨u,by rw [ao zS];exact hu⟩
      obtain ⟨u,hu⟩:=ex;rw [hu1] at hu;cases hu
     refine zAC xs' (t2 _ _ ac) (by simp at lx l9;rw [sizeLine_eq];omega) (hN _ _ ⟨zAB (tQ (fo:=fa) (sB.trans t2) (t2 _ _ ac) (k1.keep t2.ts (Kept.of t2)) (Same.upd hu2 _ _ ac) (t2 _ _ ha1) (r1.same t2) (SqT.of ac) ?_ (fun c' hc'=>?_) (fun e' he'=>by have:=few e' (zq6 _ he');omega)) Jz (by simpa using l9),zAY _ _ _ _ _ _ _ _ rfl⟩)
     ·have n4:(u1::S::((ra::fa)++f')).Nodup:=zq25.mpr ⟨no1,nd3⟩;exact (List.Perm.nodup_iff (List.Perm.swap S u1 _)).mp n4
     ·by_cases z1:c'=u1
      ·rw [z1];exact sB.free hu1
      ·refine fr c' (sub3 c' ?_);simp only [List.cons_append,List.mem_cons] at hc' ⊢;rcases hc' with z | z | z
       ·exact .inl z
       ·exact absurd z z1
       ·exact .inr z
    ·dsimp only at hN;rw [if_neg e3] at hN;refine zBD H e e2 es' i ⟨sm5,zAE _ _ hS5 hK5 nd fr,few⟩ Jy fun H6 k6=>hN _ _ ⟨zAB k6 ?_ ?_,zAY _ _ _ _ _ _ _ _ rfl⟩
     ·rw [bM];omega
     ·rw [bM];simp at l9;omega
   ·have c1:¬(g % 12<2/\1<es.length):=fun z=>e1 ⟨z.1,Jy⟩;rw [if_neg c1] at hN;refine aB (fun e2=>?_) (fun e2=>?_)
    ·rw [if_pos e2] at hN;refine IL (SqL.of hS5) hB5 (fun e3 e4 e5=>?_) (fun e3=>?_)
     ·have hne:¬ns=[]:=fun z=>by rw [z] at e5;simp at e5
      rw [if_pos ⟨e3,Jy,hne⟩] at hN;refine ⟨.inl ⟨rfl,_,SqL.of hS5⟩,fun u1 hu1=>zAA _ _ (SqL.of ac) (Eo Jy Jy) fun u2 hu2=>?_⟩;have t1:=Same.upd (o:=.lst [V.str "if",V.str "while",V.str "if"]) hu1;have t2:=t1.updN (o:=.lst []) hu2;refine ⟨CDivB.small Jx Jx,zAC _ (.inl (t2.seq hB5)) (by rw [zq1];have:=zq47.mpr hne;omega) (zAA _ _ (t2.seq hB5) (by rw [zq1];exact nu hne) fun u3 hu3 u4 hu4=>?_)⟩;have t3:=t2.updN (o:=.lst []) hu3;have t4:=t3.updN (o:=.tup [V.str (kd3 (g % 12-2)).str,V.ref u2,V.str (jz (g / 12) ns),V.ref u3]) hu4;have m2:=t1.free hu2;have m3:=t2.free hu3;have n23:¬u2=u3:=fun z=>by rw [<- z,ac] at hu3;cases hu3
      have no2:u2∉S::f:=fun z=>by obtain ⟨u,hu⟩:=trk u2 z;rw [m2] at hu;cases hu
      have no3:u3∉S::f:=fun z=>by obtain ⟨u,hu⟩:=trk u3 z;rw [m3] at hu;cases hu
      refine zAC xs (t4 _ _ hS5) (by rw [sizeLine_eq];omega) (hN _ _ ⟨zAB (tQ (fo:=[]) (sm5.trans t4) (t4 _ _ hS5) (hK5.keep t4.ts (Kept.of t4)) (Same.upd hu4 _ _ (Same.upd hu3 _ _ ac)) (Same.upd hu4 _ _ ac) .nil (SqT.of ac) ?_ (fun c' hc'=>?_) (fun e he=>by have:=few e he;omega)) Jz (by simp;omega),zAY _ _ _ _ _ _ _ _ rfl⟩)
      ·have n1:=zq25.mp nd;simp only [List.cons_append,List.nil_append,List.nodup_cons,List.mem_cons,not_or] at no2 no3 ⊢;exact zAG (zAB (fun z=>no2.1 z.symm) (fun z=>no3.1 z.symm) n1.1) ⟨n23,no2.2⟩ no3.2 n1.2
      ·simp only [List.cons_append,List.nil_append,List.mem_cons] at hc';rcases hc' with z | z | z | z
       ·exact fr c' (by rw [z];simp)
       ·rw [z];exact sm5.free m2
       ·rw [z];exact sm5.free m3
       ·exact fr c' (zq6 _ z)
     ·have c3:¬(g % 12<5/\es.length<9/\¬ns=[]):=fun z=>e3 (zAB z.1 Jy (by have:=zq47.mpr z.2.2;rw [zq1];omega));rw [if_neg c3] at hN;obtain ⟨e,es',rfl⟩:∃e es',es=e::es':=by
       match es,l1 with
       |e::es',_=>exact zAJ e es' rfl
      refine ⟨CDivB.small Jx Jx,zAF ns hB5 w0 w8 fun p6 H6 s6 hp6 ht6=>?_⟩;refine zBJ H xs e es' f ([]) (.deed (fh (g / 12) ns w)) i (sm5.trans s6) (s6 _ _ hS5) (hK5.keep s6.ts (Kept.of s6)) (.deed jl (SqT.of (by rw [vd];exact ht6))) (by rw [gQ];exact nd) (fun c' hc'=>fr c' (by rw [gQ] at hc';exact hc')) few Jy fun H7 k7=>?_;exact hN _ _ ⟨zAB k7 (by simp [lT]) (by simpa [lT] using l9),zAY _ _ _ _ _ _ _ _ rfl⟩
    ·rw [if_neg e2] at hN;exact hN _ _ ⟨zAB ⟨sm5,zAE _ _ hS5 hK5 nd fr,fun e he=>by have:=few e he;omega⟩ l1 l9,zAY _ _ _ _ _ _ _ _ rfl⟩
  ·intro σ H' hv;obtain ⟨⟨ok,l1,l9⟩,o6,o7,o8,o9,o10,o11,o12,o13,rfl⟩:=hE _ _ _ hv;clear hv hI hE;rw [zq1,eE] at *;exact ⟨zAF _ lcs ok l1 l9,zAV _ _ _ _ _ _ _ _ _ rfl⟩
 ·rintro σ H' ⟨⟨B,hB63,ok,l1,l9⟩,o5,o6,o7,o8,o9,o10,o11,o12,o13,rfl⟩;obtain ⟨μ,hμ⟩:∃μ:L2.St->Hp->Nat,μ=fun _ H'=>match H' S with | some (.lst xs)=>xs.length | _=>0:=⟨_,rfl⟩
  refine gH (fun σ H'=>(∃es B,dD K H H' S es B/\B+es.length<=80/\1<=es.length/\bY es=hV cs ns w most)/\∃o5 o6 o7 o8 o9 o10 o11 o12 o13,σ=[some (.ref a),some (.ref b),some (.int w),some (.int most),some (.ref S),o5,o6,o7,o8,o9,o10,o11,o12,o13])
   μ ⟨zAE _ B ok Jy l1 rfl,zAV _ _ _ _ _ _ _ _ _ rfl⟩ ?_
  ·rintro σ H2 ⟨⟨es,B2,ok2,hb2,le2,hcl⟩,o5,o6,o7,o8,o9,o10,o11,o12,o13,rfl⟩;obtain ⟨sm,⟨xs,f,hSx,hK,nd,fr⟩,few⟩:=id ok2;have lx:=hK.length;rwa [iJ];refine zn _ (.inl (SqL.of hSx)) (aB (fun e1=>?_) (fun e1=>?_))
   ·obtain ⟨e,e2,es',rfl⟩:∃e e2 es',es=e::e2::es':=by
     match es,(show 1<es.length by omega) with
     |e::e2::es',_=>exact zAH e e2 es' rfl
    refine zn (fun σ H'=>((∃es B,dD K H H' S es B/\B+es.length<=80/\1<=es.length/\bY es=hV cs ns w most)/\∃o5 o6 o7 o8 o9 o10 o11 o12 o13,σ=[some (.ref a),some (.ref b),some (.int w),some (.int most),some (.ref S),o5,o6,o7,o8,o9,o10,o11,o12,o13])/\μ σ H'<μ [some (.ref a),some (.ref b),some (.int w),some (.int most),some (.ref S),o5,o6,o7,o8,o9,o10,o11,o12,o13] H2) (fun σ' H' h=>zAC _ h.2 rfl h.1) ?_;refine zBD H e e2 es' B2 ok2 Jy fun H3 k3=>⟨⟨zAE _ (B2+1) k3 (by rw [bM];simp at hb2;omega) (by rw [bM];omega) ?_,zAV _ _ _ _ _ _ _ _ _ rfl⟩,?_⟩
    ·rw [<- hcl];show bY (e2.add (cB e)::es')=_;rw [bY]
    ·obtain ⟨_,⟨xs3,f3,hS3,hK3,_,_⟩,_⟩:=k3;have l3:=hK3.length;rw [bM] at l3;rw [hμ];dsimp only;rw [hS3,hSx];simp at lx;show xs3.length<xs.length;omega
   ·obtain ⟨e,rfl⟩:∃e,es=[e]:=by
     match es,le2,(show es.length<=1 by omega) with
     | [e],_,_=>exact ⟨e,rfl⟩
    obtain ⟨xs',x,f',g',rfl,rfl,h1,h2⟩:=hK.inv
    cases h1
    obtain ⟨qq,ra,oo,ys,zs,fa,fo,rfl,hq,ha,hr1,ho,hr2,rfl⟩:=id h2;have hcl':e.rows=hV cs ns w most:=by rw [<- hcl,bY]
    refine zAA _ _ (SqL.of hSx) rfl ?_;rwa [];refine zAA _ _ hq rfl (q ra ys fa H2 sm ha (by rw [<- hcl'];exact hr1) ?_ (fun c hc=>fr c ?_))
    ·exact nd.sublist (.cons _ (by rw [gQ];exact .cons_cons _ (.cons _ (AE _ _))))
    ·simp only [List.append_nil,List.cons_append,List.mem_cons,List.mem_append] at hc ⊢;rcases hc with z | z<;>simp [z]
theorem vY{a b:Addr}{w most:Int}{H:Hp}{Q:VK}{E:XK}:kH K [.ref a,.ref b,.int w,.int most] H Q E=∃(cs:List Int)(ns:List Str),SqL K H a (cs.map V.int)/\cs.length<=63/\(∀z∈cs,Builtin.Int.intBits z<=2 ^ 20)/\SqL K H b (ns.map V.str)/\0<=w/\w<=8/\
 ∀p xs f H',Same H H'->H' p=some (.lst xs)->StmsV K H' xs (hV cs ns w most) f->(p::f).Nodup->(∀c∈p::f,H c=none)->Q (.ref p) H':=propext ⟨by rintro ⟨_,_,_,_,e,q⟩;cases e;exact q,fun q=>zAP _ _ _ _ rfl q⟩
def gC(K:W.Frag)(d:Nat):Sp:=fun vs H Q _=>∃(a:Addr)(xs:List V)(ss:List Stm)(f:List Addr),vs=[.ref a]/\H a=some (.lst xs)/\StmsV K H xs ss f/\bJ ss<d/\aY ss<=1000/\
 ∀p ys g H',Same H H'->H' p=some (.lst ys)->StmsV K H' ys ss g->(p::g).Nodup->(∀c∈p::g,H c=none)->Q (.ref p) H'
def iP(K:W.Frag)(d:Nat):Sp:=fun vs H Q _=>∃(x:V)(s:Stm)(f:List Addr),vs=[x]/\StmV K H x s f/\s.deep<d/\s.many<=1000/\
 ∀y g H',Same H H'->StmV K H' y s g->g.Nodup->(∀c∈g,H c=none)->Q y H'
theorem yH{d:Nat}{x:V}{H:Hp}{Q:VK}{E:XK}:iP K d [x] H Q E=∃(s:Stm)(f:List Addr),StmV K H x s f/\s.deep<d/\s.many<=1000/\∀y g H',Same H H'->StmV K H' y s g->g.Nodup->(∀c∈g,H c=none)->Q y H':=
 propext ⟨by rintro ⟨_,s,f,e,q⟩;cases e;exact zAJ s f q,by rintro ⟨s,f,q⟩;exact zAK x s f rfl q⟩
theorem c6{d:Nat}{a:Addr}{H:Hp}{Q:VK}{E:XK}:gC K d [.ref a] H Q E=∃(xs:List V)(ss:List Stm)(f:List Addr),H a=some (.lst xs)/\StmsV K H xs ss f/\bJ ss<d/\aY ss<=1000/\
 ∀p ys g H',Same H H'->H' p=some (.lst ys)->StmsV K H' ys ss g->(p::g).Nodup->(∀c∈p::g,H c=none)->Q (.ref p) H':=
 propext ⟨by rintro ⟨_,xs,ss,f,e,q⟩;cases e;exact zAH xs ss f q,by rintro ⟨xs,ss,f,q⟩;exact zAP a xs ss f rfl q⟩
theorem ji(T:Txt K mg t)(d:Nat)(G_111:FnOk P w K mg base CX0 (2 * d+1) t.f_111 t.e_111 ["row"] (iP K d)):FnOk P w K mg base CX0 (2 * d+2) t.f_110 t.e_110 ["rows"] (gC K d):=by
 refine T.d_110.F.ok G1 ∅ ?_;rintro cdv A outer s H vs Q E hr ⟨a,xs,ss,f,rfl,ha,hx,hd,hl,q⟩;refine ⟨_,
   (XSs.h
   (ak
    (aw (bS (tns:=["row"]) (cns:=[]) (ci:=[]) rfl (CompSc.of Jw) (bc (yqv 0 vl)) (fun _=>(aC (i:=1) (show List.Nodup [(".0":Str),("row":Str)] by decide +kernel) rfl ll (Or.inr Jw))) (fun _=>cz) (fun _=>(ax T.d_111 G_111 hr.m (aa (yqv 1 vl) ae) gl)))))),?_⟩
 rw [show aP _ [V.ref a]=[some (.ref a)] from rfl];rwa [yH];refine ⟨⟨_,SqL.of ha⟩,fun acc hacc bk=>?_⟩;have lx:=hx.length;have lm:=cC ss;refine eF (xs:=xs) (fun i ys H'=>Same H H'/\H' acc=some (.lst ys)/\ys.length=i/\∃g,StmsV K H' ys (ss.take i) g/\(acc::g).Nodup/\∀c∈acc::g,H c=none) ?_ ?_ ?_ ?_
 ·exact zAG (Same.upd hacc) ac rfl (zAC ([]) .nil Jz fun c hc=>by rw [zq2.mp hc];exact hacc)
 ·intro i ys H' _ h;exact SqL.of (h.1 _ _ ha)
 ·rintro i x ys H' os hxi ho ⟨sm,hacc2,ly,g,hg,nd,fr⟩
  match os,ho with
  | [o],_=>
   rwa [yH];refine ⟨zn ([some x]) rfl rfl,?_⟩;rw [if_pos trivial];obtain ⟨s,f',hs,hsv,_⟩:=hx.get hxi;have hi:i<ss.length:=(zq10.mp hs).1;have hse:ss[i]=s:=(zq10.mp hs).2;have hds:=lR (zq9 hs);refine zAE s f' (hsv.same sm) Jy (by have:=iC (zq9 hs);omega) fun y g2 H2 s2 hy nd2 fr2=>?_;have na:acc∉g:=(zq25.mp nd).1;have na2:acc∉g2:=fun z=>by rw [fr2 acc z] at hacc2;cases hacc2
   have tt:TSame H2 (upd H2 acc (.lst (ys++[y]))):=TSame.updL (s2 _ _ hacc2);refine zAQ (s2 _ _ hacc2) (by rw [sizeLine_eq];omega) ((sm.trans s2).updM hacc) ac (by simp [ly]) (zAC (g++g2) ?_ ?_ fun c hc=>?_)
   ·rw [eg hi,hse];exact ((hg.same s2).keep tt (Kept.upd na)).snoc (hy.keep tt (Kept.upd na2))
   ·refine zq25.mpr ⟨fun z=>(zq11.mp z).elim na na2,lX (zq25.mp nd).2 nd2 fun c h1 h2=>?_⟩;obtain ⟨zs,hz⟩:=hg.tracked c h1;rw [fr2 c h2] at hz;cases hz
   ·rcases zq5.mp hc with z | z
    ·rw [z];exact hacc
    ·rcases zq11.mp z with z | z
     ·exact fr c (zq6 _ z)
     ·exact sm.free (fr2 c z)
 ·rintro ys H' ⟨sm,hacc2,ly,g,hg,nd,fr⟩;rw [lx,eE] at hg;exact q acc ys g H' sm hacc2 hg nd fr
theorem v0(T:Txt K mg t)(d:Nat)(G_110:FnOk P w K mg base CX0 (2 * d+2) t.f_110 t.e_110 ["rows"] (gC K d)):FnOk P w K mg base CX0 (2 * (d+1)+1) t.f_111 t.e_111 ["row"] (iP K (d+1)):=by
 refine T.d_111.F.ok G3 ∅ ?_;rintro cdv A outer s H vs Q E hr ⟨x,s,f,rfl,hx,hd,hm,q⟩;refine ⟨_,
   (XSs.h
   (ai
    (aG (ap aZ (aq az (yqv 0 vl) aj) aF (aA _))
     (ak
      (aw (aI (aa aF (aa (aq az (yqv 0 vl) aj) (aa (ax T.d_110 G_110 hr.m (aa (aq az (yqv 0 vl) aj) ae) gl) (aa (ax T.d_110 G_110 hr.m (aa (aq az (yqv 0 vl) aj) ae) gl) ae)))))))
     aD)
   (ai
    (aG (ap aZ (aq az (yqv 0 vl) aj) aF (aA _))
     (ak
      (aw (aI (aa aF (aa (aq az (yqv 0 vl) aj) (aa (ax T.d_110 G_110 hr.m (aa (aq az (yqv 0 vl) aj) ae) gl) ae))))))
     aD)
   (ak
    (aw (yqv 0 vl)))))),?_⟩
 rw [show aP _ [x]=[some x] from rfl]
 cases hx with
 | @deed q0 dd hf hq=>
  rwa [c6];refine jk hf hq Jv Jv Jv (zn _ rfl ?_);rw [if_neg zq3];refine jk hf hq Jv Jv Jv (zn _ rfl ?_);rw [if_neg zq3];exact q _ [] H (Same.refl H) (.deed hf hq) Jz (fun c hc=>by cases hc)
 | @ifs q0 a b n xs ys ones others f g hq ha hb h1 h2=>
  simp only [Stm.deep,Stm.many] at hd hm;rwa [c6];refine zAA _ _ hq rfl ?_;rwa [c6];refine aB (fun _=>zAA _ _ hq rfl (zAA _ _ hq rfl ?_)) (fun z=>absurd trivial z);rwa [c6];refine zAL xs ones f ha h1 Jy Jy fun p1 zs1 g1 H1 s1 e1 k1 nd1 fr1=>zAA _ _ (s1.seqT hq) rfl ?_;rwa [c6];refine zAL ys others g (s1 _ _ hb) (h2.same s1) Jy Jy fun p2 zs2 g2 H2 s2 e2 k2 nd2 fr2 p3 hp3=>?_;have s3:=Same.upd (o:=.tup [V.str "if",V.str n,V.ref p1,V.ref p2]) hp3;have s12:=s1.trans s2;refine q _ (p1::p2::(g1++g2)) _ (s12.trans s3) (.ifs (SqT.of ac) (s3 _ _ (s2 _ _ e1)) (s3 _ _ e2) ((k1.same s2).same s3) (k2.same s3)) ?_ (fun c hc=>?_)
  ·have dj:∀c∈p1::g1,c∉p2::g2:=fun c h1 h2=>by
    have ex:∃u,H1 c=some u:=by
     rcases zq5.mp h1 with z | z
     ·exact ⟨_,by rw [z];exact e1⟩
     ·obtain ⟨u,hu⟩:=k1.tracked c z;exact ⟨_,hu⟩
    obtain ⟨u,hu⟩:=ex;rw [fr2 c h2] at hu;cases hu
   have n5:=lX nd1 nd2 dj;refine (List.Perm.nodup_iff ?_).mp n5;rw [wJ];exact .cons _ List.perm_middle
  ·rcases zq5.mp hc with z | z
   ·rw [z];exact fr1 p1 Jz
   rcases zq5.mp z with z | z
   ·rw [z];exact s1.free (fr2 p2 Jz)
   rcases zq11.mp z with z | z
   ·exact fr1 c (zq6 _ z)
   ·exact s1.free (fr2 c (zq6 _ z))
 | @whl q0 a n xs rows f hq ha h1=>simp only [Stm.deep,Stm.many] at hd hm;rwa [c6];refine zAA _ _ hq rfl ?_;rwa [c6];refine aB (fun z=>absurd z Jv) (fun _=>zAA _ _ hq rfl ?_);rwa [c6];refine aB (fun _=>zAA _ _ hq rfl (zAA _ _ hq rfl ?_)) (fun z=>absurd trivial z);rwa [c6];refine zAL xs rows f ha h1 Jy Jy fun p1 zs1 g1 H1 s1 e1 k1 nd1 fr1 p3 hp3=>?_;have s3:=Same.upd (o:=.tup [V.str "while",V.str n,V.ref p1]) hp3;exact q _ (p1::g1) _ (s1.trans s3) (.whl (SqT.of ac) (s3 _ _ e1) (k1.same s3)) nd1 fr1
theorem lZ(T:Txt K mg t):∀d,FnOk P w K mg base CX0 (2 * d+1) t.f_111 t.e_111 ["row"] (iP K d)/\FnOk P w K mg base CX0 (2 * d+2) t.f_110 t.e_110 ["rows"] (gC K d)
 |0=>by
  have h0:FnOk P w K mg base CX0 (2 * 0+1) t.f_111 t.e_111 ["row"] (iP K 0):=⟨fun vs H Q E h=>by obtain ⟨_,_,_,_,_,h,_⟩:=h;omega,fun _ _ _ _ _ _ _ _ _ _ _ _ _ h=>by obtain ⟨_,_,_,_,_,h,_⟩:=h;omega⟩
  exact ⟨h0,ji T 0 h0⟩
 |d+1=>by have h1:=v0 T d (lZ T d).2;exact ⟨h1,ji T (d+1) h1⟩
def sL(K:W.Frag)(C:Addr)(d:Nat)(p:Addr)(a0:Addr)(b0:Addr)(r0:Addr)(wd:Int)(H:Hp)(Q:VK):Prop:=∃(dx:Addr)(ins:List Str)(oth:List Str)(xs:List V)(ss:List Stm)(f:List Addr),H p=some (.ins C dx [])/\
 H a0=some (.lst (ins.map V.str))/\H b0=some (.lst (oth.map V.str))/\H r0=some (.lst xs)/\StmsV K H xs ss f/\bJ ss<d/\aY ss<=1000/\ins.length<=1000/\oth.length<=1000/\
 ∀a b r ys g H',SameX p H H'->ProgAt K C H' p wd ins oth ss a b r ys g->(a::b::r::g).Nodup->(∀c∈a::b::r::g,H c=none)->Q .non H'
def uh(K:W.Frag)(C:Addr)(d:Nat):Sp:=fun vs H Q _=>∃(p:Addr)(a0:Addr)(b0:Addr)(r0:Addr)(wd:Int),vs=[.ref p,.int wd,.ref a0,.ref b0,.ref r0]/\sL K C d p a0 b0 r0 wd H Q
theorem Bj(T:Txt K mg t)(d:Nat):FnOk P w K mg base CX0 (2 * d+3) t.f_109 t.e_109 ["self","width","ins","boxes","rows"] (uh K t.C_Program d):=by
 have G_110:=(@lZ P w K mg base t T d).2;refine T.d_109.F.ok G0 ∅ ?_;rintro cdv A outer s H vs Q E hr ⟨p,a0,b0,r0,wd,rfl,dx,ins,oth,xs,ss,f,hp,ha,hb,hr0,hx,hd,hm,hi,ho,q⟩;refine ⟨_,
   (XSs.h
   (ai
    (bI (yqv 0 vl) (yqv 1 vl) rfl)
   (ai
    (bI (yqv 0 vl) (ck dG gl T.z_list boot_list (aa (yqv 2 vl) ae)) rfl)
   (ai
    (bI (yqv 0 vl) (av eN (ck dG gl T.z_list boot_list (aa (yqv 2 vl) ae)) (ck dG gl T.z_list boot_list (aa (yqv 3 vl) ae))) rfl)
   (ak
    (bI (yqv 0 vl) (ax T.d_110 G_110 hr.m (aa (yqv 4 vl) ae) gl) rfl)))))),?_⟩
 rw [show aP _ [V.ref p,V.int wd,V.ref a0,V.ref b0,V.ref r0]=[some (.ref p),some (.int wd),some (.ref a0),some (.ref b0),some (.ref r0)] from rfl];rwa [c6];have na:a0≠p:=bw ha hp (by intro z;cases z);have nb:b0≠p:=bw hb hp (by intro z;cases z);have nr:r0≠p:=bw hr0 hp (by intro z;cases z);refine fk hp T.c_Program.cl T.n_Program_width Jz ?_;rw [bN JA,qM];obtain ⟨H1,hH1⟩:∃H1,H1=upd H p (.ins t.C_Program dx [("width",V.int wd)]):=⟨_,rfl⟩
 rw [<- hH1];have e1:H1 p=some (.ins t.C_Program dx [("width",V.int wd)]):=by rw [hH1];exact ac
 have s1:SameX p H H1:=by rw [hH1];exact SameX.upd
 have t1:TSame H H1:=by rw [hH1];exact TSame.updI hp
 rwa [c6];refine zn _ (.inl (SqL.of (s1 _ _ ha na))) fun l1 hl1=>?_;have np1:p≠l1:=am e1 hl1;refine fk (by rw [ao np1];exact e1) T.c_Program.cl T.n_Program_ins Jz ?_;rw [bN Jw];obtain ⟨H2,hH2⟩:∃H2,H2=upd (upd H1 l1 (.lst (ins.map V.str))) p (.ins t.C_Program dx ([(("width":Str),V.int wd)]++[(("ins":Str),V.ref l1)])):=⟨_,rfl⟩
 rw [<- hH2];have e2:H2 p=some (.ins t.C_Program dx ([(("width":Str),V.int wd)]++[(("ins":Str),V.ref l1)])):=by rw [hH2];exact ac
 have s2:SameX p H1 H2:=by rw [hH2];exact (SameX.of (Same.upd hl1)).trans SameX.upd
 have k2:H2 l1=some (.lst (ins.map V.str)):=by rw [hH2,ao np1.symm];exact ac
 have t2:TSame H1 H2:=by rw [hH2];exact (Same.upd hl1).ts.trans (TSame.updI (by rw [ao np1];exact e1))
 have s02:=s1.trans s2;rwa [c6];refine zn _ (.inl (SqL.of (s02 _ _ ha na))) fun l2 hl2=>?_;have s3:=Same.upd (o:=.lst (ins.map V.str)) hl2;refine zn _ (.inl (SqL.of (s3 _ _ (s02 _ _ hb nb)))) fun l3 hl3=>?_;have s4:=s3.trans (Same.upd (o:=.lst (oth.map V.str)) hl3);refine zAE _ _ (by rw [ao (am ac hl3)];exact ac) ac (by rw [sizeLine_eq];simp only [List.length_map];omega) fun l4 hl4=>?_;have s5:=s4.trans (Same.upd (o:=.lst (ins.map V.str++oth.map V.str)) hl4);refine fk (s5 _ _ e2) T.c_Program.cl T.n_Program_boxes Jz ?_;rw [bN Jw];have np4:p≠l4:=am (s4 _ _ e2) hl4;obtain ⟨H3,hH3⟩:∃H3,H3=upd (upd (upd (upd H2 l2 (.lst (ins.map V.str))) l3 (.lst (oth.map V.str))) l4 (.lst (ins.map V.str++oth.map V.str))) p (.ins t.C_Program dx ([(("width":Str),V.int wd)]++[(("ins":Str),V.ref l1)]++[(("boxes":Str),V.ref l4)])):=⟨_,rfl⟩
 rw [<- hH3];have e3:H3 p=some (.ins t.C_Program dx ([(("width":Str),V.int wd)]++[(("ins":Str),V.ref l1)]++[(("boxes":Str),V.ref l4)])):=by rw [hH3];exact ac
 have s23:SameX p H2 H3:=by rw [hH3];exact (SameX.of s5).trans SameX.upd
 have k4:H3 l4=some (.lst (ins.map V.str++oth.map V.str)):=by rw [hH3,ao np4.symm];exact ac
 have t3:TSame H2 H3:=by rw [hH3];exact s5.ts.trans (TSame.updI (s5 _ _ e2))
 have s03:=s02.trans s23;rwa [c6];have pf:p∉f:=fun z=>by obtain ⟨zs,hz⟩:=hx.tracked p z;rw [hp] at hz;cases hz
 refine zAL xs ss f (s03 _ _ hr0 nr) (hx.keep ((t1.trans t2).trans t3) (fun c hc o e=>s03 c o e (fun z=>pf (by rw [<- z];exact hc)))) hd hm fun r ys g H4 s34 e4 k5 nd fr=>?_;refine fk (s34 _ _ e3) T.c_Program.cl T.n_Program_rows Jz ?_;rw [bN Jw];have pg:p∉r::g:=fun z=>by rw [fr p z] at e3;cases e3
 have npr:r≠p:=fun z=>pg (by rw [z];exact eD);have nl1:l1≠p:=np1.symm;have nl4:l4≠p:=np4.symm;have n14:l1≠l4:=am (s4 _ _ k2) hl4;have f1:H l1=none:=s1.free e1 hl1;have f4:H l4=none:=s02.free e2 (s4.free hl4);have k3:H3 l1=some (.lst (ins.map V.str)):=s23 _ _ k2 nl1;refine q l1 l4 r ys g _ (s03.trans ((SameX.of s34).trans SameX.upd)) ⟨⟨dx,ac⟩,?_,?_,?_,?_⟩ ?_ ?_
 ·rw [ao nl1];exact s34 _ _ k3
 ·rw [ao nl4,cy];exact s34 _ _ k4
 ·rw [ao npr];exact e4
 ·exact k5.keep (TSame.updI (s34 _ _ e3)) (Kept.upd fun z=>pg (zq6 _ z))
 ·have a1:l1∉r::g:=fun z=>by rw [fr l1 z] at k3;cases k3
  have a4:l4∉r::g:=fun z=>by rw [fr l4 z] at k4;cases k4
  refine zq25.mpr ⟨fun z=>?_,zq25.mpr ⟨a4,nd⟩⟩;rcases zq5.mp z with z | z
  ·exact n14 z
  ·exact a1 z
 ·intro c hc;rcases zq5.mp hc with z | hc
  ·rw [z];exact f1
  rcases zq5.mp hc with z | hc
  ·rw [z];exact f4
  exact s03.free e3 (fr c hc)
variable {E:XK} {H H':Hp} {Q:VK} {p:Addr} {x:V}
def fj:FZ.Ed->List V
 | .stop=>[.str "stop"]
 | .go i=>[.str "go",.int i]
 | .choose n i j=>[.str "choose",.str n,.int i,.int j]
def DeedV1(K:W.Frag)(H:Hp)(x:V)(d:Deed):Prop:=∃q,x=.ref q/\SqT K H q d.vs/\d.fine
def BlkV(K:W.Frag)(N:Addr->Prop)(H:Hp)(bl:Addr)(x:V)(b:FZ.Blk):Prop:=∃q a e vs,x=.ref q/\H q=some (.tup [.ref a,.ref e])/\H a=some (.lst vs)/\Paired (DeedV1 K H) vs b.ds/\H e=some (.tup (fj b.ed))/\a≠bl/\N a
theorem DeedV1.ts{K:W.Frag}{d:Deed}(t:TSame H H')(h:DeedV1 K H x d):DeedV1 K H' x d:=let ⟨q,e,z,f⟩:=h;(zAC q e (t.seqT z) f)
theorem SameX.tsL2{ys:List V}(s:SameX p H H')(h:H p=some (.lst ys)):TSame H H':=
 ⟨fun c xs e=>s c _ e (fun z=>by rw [z,h] at e;cases e),fun c o u e=>s c _ e (fun z=>by rw [z,h] at e;cases e)⟩
theorem BlkV.sx{K:W.Frag}{N:Addr->Prop}{bl:Addr}{b:FZ.Blk}{ys:List V}(h:BlkV K N H bl x b)(s:SameX bl H H')(hb:H bl=some (.lst ys)):BlkV K N H' bl x b:=by obtain ⟨q,a,e,vs,ex,h1,h2,h3,h4,h5⟩:=h;have tt:=SameX.tsL2 s hb;exact zBA q a e vs ex (s _ _ h1 (fun z=>by rw [z,hb] at h1;cases h1)) (s _ _ h2 h5.1) (FL.Paired.imp h3 fun y _ d _ z=>z.ts tt) (s _ _ h4 (fun z=>by rw [z,hb] at h4;cases h4)) h5
structure PartAt(K:W.Frag)(C:Addr)(N:Addr->Prop)(H:Hp)(p bl:Addr)(B:List FZ.Blk):Prop where
 ob:∃dx,H p=some (.ins C dx [("blocks",.ref bl)])
 nw:∀c,H c=none->N c
 bs:∃xs,H bl=some (.lst xs)/\Paired (BlkV K N H bl) xs B
theorem PartAt.ne{K:W.Frag}{C:Addr}{N:Addr->Prop}{bl:Addr}{B:List FZ.Blk}(h:PartAt K C N H p bl B):p≠bl:=fun z=>by obtain ⟨dx,e⟩:=h.ob;obtain ⟨xs,e2,_⟩:=h.bs;rw [z,e2] at e;cases e
theorem PartAt.same{K:W.Frag}{C:Addr}{N:Addr->Prop}{bl:Addr}{B:List FZ.Blk}(h:PartAt K C N H p bl B)(s:Same H H'):PartAt K C N H' p bl B:=by obtain ⟨xs,e,q⟩:=h.bs;exact ⟨let ⟨dx,e⟩:=h.ob;⟨dx,s _ _ e⟩,fun c hc=>h.nw c (s.free hc),xs,s _ _ e,FL.Paired.imp q fun x _ b _ z=>z.sx (SameX.of s) e⟩
theorem BlkV.same{K:W.Frag}{N:Addr->Prop}{bl:Addr}{b:FZ.Blk}(h:BlkV K N H bl x b)(s:Same H H'):BlkV K N H' bl x b:=by obtain ⟨q,a,e,vs,ex,h1,h2,h3,h4,h5⟩:=h;exact zBA q a e vs ex (s _ _ h1) (s _ _ h2) (FL.Paired.imp h3 fun y _ d _ z=>z.ts s.ts) (s _ _ h4) h5
def qP(K:W.Frag)(C:Addr)(p:Addr)(x:V)(H:Hp)(Q:VK):Prop:=∃(N:Addr->Prop)(bl:Addr)(B:List FZ.Blk)(b:FZ.Blk),PartAt K C N H p bl B/\BlkV K N H bl x b/\B.length<5000/\∀H',SameX bl H H'->PartAt K C N H' p bl (B++[b])->Q (.int B.length) H'
def zt(K:W.Frag)(C:Addr):Sp:=fun vs H Q _=>∃(p:Addr)(x:V),vs=[.ref p,x]/\qP K C p x H Q
def sM(K:W.Frag)(C:Addr)(p:Addr)(H:Hp)(Q:VK):Prop:=∃(N:Addr->Prop)(bl:Addr)(B:List FZ.Blk),PartAt K C N H p bl B/\B.length<5000/\∀H',SameX bl H H'->PartAt K C N H' p bl (B++[⟨[],.stop⟩])->Q (.int B.length) H'
def uj(K:W.Frag)(C:Addr):Sp:=fun vs H Q _=>∃p:Addr,vs=[.ref p]/\sM K C p H Q
def xf(K:W.Frag)(C:Addr)(p:Addr)(x:V)(H:Hp)(Q:VK):Prop:=∃(N:Addr->Prop)(bl:Addr)(B:List FZ.Blk)(b:FZ.Blk),PartAt K C N H p bl B/\BlkV K N H bl x b/\B.length<5000/\∀H',SameX bl H H'->PartAt K C N H' p bl (FZ.b8 b B).2->Q (.int (FZ.b8 b B).1) H'
def zw(K:W.Frag)(C:Addr):Sp:=fun vs H Q _=>∃(p:Addr)(x:V),vs=[.ref p,x]/\xf K C p x H Q
theorem CG{C:Addr}:zt K C [.ref p,x] H Q E=qP K C p x H Q:=propext ⟨by rintro ⟨_,_,e,q⟩;cases e;exact q,fun q=>zAD _ _ rfl q⟩
theorem nv{C:Addr}:uj K C [.ref p] H Q E=sM K C p H Q:=propext ⟨by rintro ⟨_,e,q⟩;cases e;exact q,fun q=>zn _ rfl q⟩
theorem iM{C:Addr}:zw K C [.ref p,x] H Q E=xf K C p x H Q:=propext ⟨by rintro ⟨_,_,e,q⟩;cases e;exact q,fun q=>zAD _ _ rfl q⟩
theorem dw{a c:Addr}{o:HO}(h:upd H a o c=none):H c=none:=by
 unfold upd at h
 split at h
 ·cases h
 ·exact h
theorem yb(T:Txt K mg t):FnOk P w K mg base CX0 1 t.f_103 t.e_103 ["self","block"] (zt K t.C_Parting):=by
 refine T.d_103.F.ok FU ∅ ?_;rintro cdv A outer s H vs Q E hr ⟨p,x,rfl,N,bl,B,b,hP,hb,hl,q⟩;obtain ⟨dx,ob⟩:=hP.ob;obtain ⟨xs,hbl,hxs⟩:=hP.bs;have lx:=hxs.length;refine ⟨_,
   (XSs.h
   (ai
    (aR (cg PySem.F.plainAttrs_list PySem.F.slot_list_append PySem.F.type_list_append bg (aM (yqv 0 vl) rfl) (aa (yqv 1 vl) ae)))
   (ak
    (aw (av gL (aK aJ gl T.z_len PySem.boot_len (aa (aM (yqv 0 vl) rfl) ae)) aj))))),?_⟩
 rw [show aP _ [V.ref p,x]=[some (.ref p),some x] from rfl];rwa [];refine bZ ob T.c_Parting.cl T.n_Parting_blocks rfl ?_;rwa [];have sx:SameX bl H (upd H bl (.lst (xs++[x]))):=SameX.upd;refine ⟨.inl ⟨rfl,_,SqL.of hbl⟩,zAC _ hbl (by rw [sizeLine_eq];omega) ?_⟩;refine bZ (sx _ _ ob hP.ne) T.c_Parting.cl T.n_Parting_blocks rfl ?_;rwa [];refine zn _ (.inl (SqL.of ac)) ?_;have z:=q _ sx ⟨⟨dx,sx _ _ ob hP.ne⟩,fun c hc=>hP.nw c (dw hc),xs++[x],ac,FL.Paired.snoc (hb.sx sx hbl) (FL.Paired.imp hxs fun y _ c _ h=>h.sx sx hbl)⟩;rw [show (((xs++[x]).length:Nat):Int)-1=(B.length:Int) by rw [zq4,c9,lx];omega];exact z
theorem gx{N:Addr->Prop}{H:Hp}{bl a e q:Addr}{ed:FZ.Ed}{vs:List V}{ds:List Deed}{ys:List V}(hbl:H bl=some (.lst ys))(hn:N a)(ha:H a=none)(hv:Paired (DeedV1 K H) vs ds)(he:upd H a (.lst vs) e=none)(hq:upd (upd H a (.lst vs)) e (.tup (fj ed)) q=none):
  Same H (upd (upd (upd H a (.lst vs)) e (.tup (fj ed))) q (.tup [.ref a,.ref e]))/\BlkV K N (upd (upd (upd H a (.lst vs)) e (.tup (fj ed))) q (.tup [.ref a,.ref e])) bl (.ref q) ⟨ds,ed⟩:=by
 have t1:=Same.upd (o:=.lst vs) ha;have t2:=Same.upd (o:=.tup (fj ed)) he;have t3:=Same.upd (o:=.tup [V.ref a,V.ref e]) hq;have s:=(t1.trans t2).trans t3;exact ⟨s,zBE q a e vs rfl ac (t3 _ _ (t2 _ _ ac)) (FL.Paired.imp hv fun y _ d _ z=>z.ts s.ts) (t3 _ _ ac) (am hbl ha).symm hn⟩
theorem tJ(T:Txt K mg t):FnOk P w K mg base CX0 2 t.f_102 t.e_102 ["self"] (uj K t.C_Parting):=by
 have G_103:=@yb P w K mg base t T;refine T.d_102.F.ok FT ∅ ?_;rintro cdv A outer s H vs Q E hr ⟨p,rfl,N,bl,B,hP,hl,q⟩;obtain ⟨dx,ob⟩:=hP.ob;obtain ⟨xs,hbl,hxs⟩:=hP.bs;refine ⟨_,
   (XSs.h
   (ak
    (aw (aT T.c_Parting.cl T.d_103 G_103 hr.m (yqv 0 vl) (aa (aI (aa (aN ae) (aa (aI (aa aF ae)) ae))) ae))))),?_⟩
 rw [show aP _ [V.ref p]=[some (.ref p)] from rfl];rwa [CG];refine bq ob rfl ?_;intro a ha e he q0 hq0;obtain ⟨sm,hb⟩:=gx (K:=K) (ed:=.stop) (ds:=[]) hbl (hP.nw _ ha) ha .nil he hq0;exact zAU N bl B _ (hP.same sm) hb hl fun H' sx hP'=>q H' ((SameX.of sm).trans sx) hP'
theorem zi{n:Nat}{a b:Addr}{vs:List V}(ha:H a=some (.lst vs))(hb:H b=some (.lst [])):Rq K H n (.ref a) (.ref b) (decide (vs=[])):=by
 cases vs with
 |nil=>
  have z:=Rq.lists (n:=n) (fun _=>true) (SqL.of (K:=K) ha) (SqL.of hb) rfl fun j x y hx _=>by simp at hx
  exact z
 |cons x r=>rw [decide_eq_false (by intro z;cases z)];exact .lens (SqL.of ha) (SqL.of hb) Jz
theorem rA(T:Txt K mg t):FnOk P w K mg base CX0 2 t.f_104 t.e_104 ["self","block"] (zw K t.C_Parting):=by
 have G_103:=@yb P w K mg base t T;refine T.d_104.F.ok FV ∅ ?_;rintro cdv A outer s H vs Q E hr ⟨p,x,rfl,N,bl,B,b,hP,hb,hl,q⟩;obtain ⟨dx,ob⟩:=hP.ob;obtain ⟨qb,a,e,vs,rfl,h1,h2,h3,h4,h5⟩:=id hb;refine ⟨_,
   (XSs.h
   (ai
    (aG (cw (cI (ap (rD (n:=0) (xC Jx hr)) (aq az (yqv 1 vl) aj) (aN ae) (aA _)) (cr (ap aZ (aq az (aq az (yqv 1 vl) aj) aj) aF (aA _)))))
     (ak
      (aw (aq az (aq az (yqv 1 vl) aj) aj)))
     aD)
   (ak
    (aw (aT T.c_Parting.cl T.d_103 G_103 hr.m (yqv 0 vl) (aa (yqv 1 vl) ae)))))),?_⟩
 rw [show aP _ [V.ref p,V.ref qb]=[some (.ref p),some (.ref qb)] from rfl];rwa [CG];refine zAA _ _ (SqT.of h1) rfl fun p0 hp0=>?_;have t0:=Same.upd (o:=.lst []) hp0;refine zn _ (zi (t0 _ _ h2) ac) (zn _ rfl ?_);have lv:=h3.length;have num:(FZ.b8 b B)=(B.length,B++[b])->jM t.C_Parting (Str.ofString "numbered") (V.ref p) (upd H p0 (HO.lst [])) (qP K t.C_Parting p (V.ref qb) (upd H p0 (HO.lst [])) Q):=fun ew=>by refine bq (t0 _ _ ob) rfl (zAU N bl B b (hP.same t0) (hb.same t0) hl fun H' sx hP'=>?_);rw [ew] at q;exact q H' ((SameX.of t0).trans sx) hP'
 obtain ⟨ds,ed⟩:=b
 cases ds with
 |cons d r=>
  have hne:¬vs=[]:=fun z=>by rw [z] at lv;simp at lv
  rw [decide_eq_false hne,if_neg zq3];exact num rfl
 |nil=>
  have hnil:vs=[]:=zq42.mp lv;rw [decide_eq_true hnil,if_pos rfl];have h40:=t0 _ _ h4;refine zAA _ _ (SqT.of (t0 _ _ h1)) rfl ?_
  cases ed with
  |stop=>
   rwa [];refine zAE _ _ (SqT.of h40) rfl rfl (zn _ rfl ?_);rw [decide_eq_false (by intro z;exact absurd (V.str.inj z) Jv),if_neg zq3];exact num rfl
  |go i=>
   rwa [];refine zAE _ _ (SqT.of h40) rfl rfl (zn _ rfl ?_);rw [decide_eq_true rfl,if_pos rfl];refine zAA _ _ (SqT.of (t0 _ _ h1)) rfl ?_;rwa [];exact zAA _ _ (SqT.of h40) rfl (q _ (SameX.of t0) (hP.same t0))
  |choose n i j=>rwa [];refine zAE _ _ (SqT.of h40) rfl rfl (zn _ rfl ?_);rw [decide_eq_false (by intro z;exact absurd (V.str.inj z) Jv),if_neg zq3];exact num rfl
variable {H:Hp} {f:List Addr} {i:Nat} {ss:List Stm} {x:V}
def sN(K:W.Frag)(C:Addr)(d:Nat)(p a:Addr)(x:V)(H:Hp)(Q:VK):Prop:=∃(N:Addr->Prop)(bl:Addr)(B:List FZ.Blk)(b:FZ.Blk)(rs:List V)(ss:List Stm)(f:List Addr),PartAt K C N H p bl B/\BlkV K N H bl x b/\H a=some (.lst rs)/\StmsV K H rs ss f/\a≠bl/\bl∉f/\bJ ss<d/\B.length+3 * aY ss<4000/\b.ds.length<=8/\
 ∀y H',SameX bl H H'->PartAt K C N H' p bl (FZ.aS ss b B).2->BlkV K N H' bl y (FZ.aS ss b B).1->(FZ.aS ss b B).1.ds.length<=8->Q y H'
def iQ(K:W.Frag)(C:Addr)(d:Nat):Sp:=fun vs H Q _=>∃(p a:Addr)(x:V),vs=[.ref p,.ref a,x]/\sN K C d p a x H Q
def sQ(K:W.Frag)(C:Addr)(d:Nat)(ok:Stm->Prop)(p:Addr)(r x:V)(H:Hp)(Q:VK):Prop:=∃(N:Addr->Prop)(bl:Addr)(B:List FZ.Blk)(b:FZ.Blk)(st:Stm)(f:List Addr),PartAt K C N H p bl B/\BlkV K N H bl x b/\StmV K H r st f/\ok st/\bl∉f/\st.deep<d/\B.length+3 * st.many<4000/\b.ds.length<=8/\
 ∀y H',SameX bl H H'->PartAt K C N H' p bl (FZ.bR st b B).2->BlkV K N H' bl y (FZ.bR st b B).1->(FZ.bR st b B).1.ds.length<=8->Q y H'
def dO(K:W.Frag)(C:Addr)(d:Nat)(ok:Stm->Prop):Sp:=fun vs H Q _=>∃(p:Addr)(r x:V),vs=[.ref p,r,x]/\sQ K C d ok p r x H Q
def Ha:Stm->Prop
 | .ifs _ _ _=>True
 |_=>False
def Hd:Stm->Prop
 | .whl _ _=>True
 |_=>False
theorem fX{C p a:Addr}{d:Nat}{Q:VK}{E:XK}:iQ K C d [.ref p,.ref a,x] H Q E=sN K C d p a x H Q:=propext ⟨by rintro ⟨_,_,_,e,q⟩;cases e;exact q,fun q=>zAK _ _ _ rfl q⟩
theorem fE{C p:Addr}{d:Nat}{ok:Stm->Prop}{r:V}{Q:VK}{E:XK}:dO K C d ok [.ref p,r,x] H Q E=sQ K C d ok p r x H Q:=propext ⟨by rintro ⟨_,_,_,e,q⟩;cases e;exact q,fun q=>zAK _ _ _ rfl q⟩
theorem gj{s:Stm}(h:ss.reverse[i]?=some s):ss.drop (ss.length-(i+1))=s::ss.drop (ss.length-i):=by
 obtain ⟨hi,e⟩:=zq10.mp h;rw [jG] at hi;rw [List.getElem_reverse] at e;have h1:ss.length-(i+1)<ss.length:=by omega
 rw [List.drop_eq_getElem_cons h1,show ss.length-(i+1)+1=ss.length-i by omega];congr 1;rw [<- e];congr 1;omega
theorem zx{xs:List V}(h:StmsV K H xs ss f)(hx:xs.reverse[i]?=some x):∃s g,ss.reverse[i]?=some s/\s∈ss/\StmV K H x s g/\∀c∈g,c∈f:=by have lx:=h.length;obtain ⟨hi,e⟩:=zq10.mp hx;rw [jG] at hi;rw [List.getElem_reverse] at e;obtain ⟨s,g,h1,h2,h3⟩:=h.get (i:=xs.length-1-i) (x:=x) (by rw [zq8 Jy,e]);refine zAE s g ?_ (zq9 h1) h2 h3;rw [uO Jy,<- lx];exact h1
theorem Gs{H':Hp}{bl:Addr}{ys:List V}{st:Stm}(h:StmV K H x st f)(s:SameX bl H H')(hb:H bl=some (.lst ys))(hf:bl∉f):StmV K H' x st f:=
 h.keep (SameX.tsL2 s hb) fun a ha o e=>s a o e (fun z=>hf (z ▸ ha))
theorem nD{H':Hp}{bl:Addr}{xs ys:List V}(h:StmsV K H xs ss f)(s:SameX bl H H')(hb:H bl=some (.lst ys))(hf:bl∉f):StmsV K H' xs ss f:=
 h.keep (SameX.tsL2 s hb) fun a ha o e=>s a o e (fun z=>hf (z ▸ ha))
theorem vC{s:Stm}(h:ss.reverse[i]?=some s):s.many+aY (ss.drop (ss.length-i))<=aY ss:=by
 have e:=congrArg aY (gj h);rw [aY] at e;have e2:aY ss=aY (ss.take (ss.length-(i+1)))+aY (ss.drop (ss.length-(i+1))):=by rw [<- fu,Am]
 omega
theorem mf(T:Txt K mg t)(d:Nat)(G_106:FnOk P w K mg base CX0 (3 * d+3) t.f_106 t.e_106 ["self","row","block"] (dO K t.C_Parting d fun _=>True)):FnOk P w K mg base CX0 (3 * d+4) t.f_105 t.e_105 ["self","rows","block"] (iQ K t.C_Parting d):=by
 refine T.d_105.F.ok sc_105 ∅ ?_;rintro cdv A outer s H vs Q E hr ⟨p,a,x,rfl,N,bl,B,b,rs,ss,f,hP,hb,ha,hx,nab,nbf,hd,hm,h8,q⟩;have lx:=hx.length;obtain ⟨xs0,hbl0,_⟩:=hP.bs;refine ⟨_,
   (XSs.h
   (ai
    (bG PassesOwn.never rfl (Ci T.z_reversed (aa (yqv 1 vl) ae) gl) (aC (i:=3) sc_105.nd rfl ll)
     (ak
      (au (i:=2) sc_105.nd rfl ll (aT T.c_Parting.cl T.d_106 G_106 hr.m (yqv 0 vl) (aa (yqv 3 vl) (aa (yqv 2 vl) ae))))))
   (ak
    (aw (yqv 2 vl))))),?_⟩
 rw [show aP _ [V.ref p,V.ref a,x]=[some (.ref p),some (.ref a),some x,none] from rfl];rwa [fE];refine zn rs (SqL.of ha) ?_;refine Ee (fun i σ H'=>SameX bl H H'/\∃y o3,PartAt K t.C_Parting N H' p bl (FZ.aS (ss.drop (ss.length-i)) b B).2/\BlkV K N H' bl y (FZ.aS (ss.drop (ss.length-i)) b B).1/\(FZ.aS (ss.drop (ss.length-i)) b B).1.ds.length<=8/\σ=[some (.ref p),some (.ref a),some y,o3])
  ⟨SameX.refl,zAE x none ?_ ?_ ?_ rfl⟩ (fun i σ H' _ h=>SqL.of (h.1 _ _ ha nab)) ?_ ?_
 ·rw [AC,An,FZ.aS];exact hP
 ·rw [AC,An,FZ.aS];exact hb
 ·rw [AC,An,FZ.aS];exact h8
 ·rintro i r σ H1 hri ⟨s1,y,o3,hP1,hb1,l1,rfl⟩;rwa [fE];obtain ⟨st,g',hst,hms,hv,hsub⟩:=zx hx hri;have hdm:=lR hms;have hmd:=vC hst;have hol:=FZ.cF (ss.drop (ss.length-i)) b B;obtain ⟨dx,ob1⟩:=hP1.ob;refine bq ob1 rfl ?_;refine zBB N bl _ _ st g' (zBG hP1 hb1 (Gs hv s1 hbl0 (fun z=>nbf (hsub bl z))) trivial (fun z=>nbf (hsub bl z)) Jy Jy l1 fun y2 H2 s2 hP2 hb2 l2=>?_);refine ⟨s1.trans s2,zAE y2 _ ?_ ?_ ?_ rfl⟩
  ·rw [gj hst,FZ.aS];exact hP2
  ·rw [gj hst,FZ.aS];exact hb2
  ·rw [gj hst,FZ.aS];exact l2
 ·rintro σ H1 ⟨s1,y,o3,hP1,hb1,l1,rfl⟩;rw [lx,qL,A9] at hP1 hb1 l1;rwa [];exact q y H1 s1 hP1 hb1 l1
theorem xg{N:Addr->Prop}{H:Hp}{bl a e q:Addr}{ed:FZ.Ed}{vs:List V}{ds:List Deed}(ha:H a=some (.lst vs))(nab:a≠bl)(hn:N a)(hv:Paired (DeedV1 K H) vs ds)(he:H e=none)(hq:upd H e (.tup (fj ed)) q=none):
  Same H (upd (upd H e (.tup (fj ed))) q (.tup [.ref a,.ref e]))/\BlkV K N (upd (upd H e (.tup (fj ed))) q (.tup [.ref a,.ref e])) bl (.ref q) ⟨ds,ed⟩:=by
 have t2:=Same.upd (o:=.tup (fj ed)) he;have t3:=Same.upd (o:=.tup [V.ref a,V.ref e]) hq;have s:=t2.trans t3;exact ⟨s,zBE q a e vs rfl ac (t3 _ _ (t2 _ _ ha)) (FL.Paired.imp hv fun y _ d _ z=>z.ts s.ts) (t3 _ _ ac) nab hn⟩
theorem B8(T:Txt K mg t)(d:Nat)(G_105:FnOk P w K mg base CX0 (3 * d+4) t.f_105 t.e_105 ["self","rows","block"] (iQ K t.C_Parting d)):FnOk P w K mg base CX0 (3 * d+5) t.f_107 t.e_107 ["self","row","block"] (dO K t.C_Parting (d+1) Ha):=by
 have G_104:=@rA P w K mg base t T;refine T.d_107.F.ok sc_107 ∅ ?_;rintro cdv A outer s H vs Q E hr ⟨p,r,x,rfl,N,bl,B,b,st,f,hP,hb,hv,hok,nbf,hd,hm,h8,q⟩;refine ⟨_,
   (XSs.h
   (ai
    (au (i:=3) sc_107.nd rfl ll (aI (aa (aN ae) (aa (aI (aa aF (aa (aT T.c_Parting.cl T.d_104 G_104 hr.m (yqv 0 vl) (aa (yqv 2 vl) ae)) ae))) ae))))
   (ai
    (au (i:=4) sc_107.nd rfl ll (aT T.c_Parting.cl T.d_104 G_104 hr.m (yqv 0 vl) (aa (aT T.c_Parting.cl T.d_105 G_105 hr.m (yqv 0 vl) (aa (aq az (yqv 1 vl) aj) (aa (yqv 3 vl) ae))) ae)))
   (ai
    (au (i:=5) sc_107.nd rfl ll (aT T.c_Parting.cl T.d_104 G_104 hr.m (yqv 0 vl) (aa (aT T.c_Parting.cl T.d_105 G_105 hr.m (yqv 0 vl) (aa (aq az (yqv 1 vl) aj) (aa (yqv 3 vl) ae))) ae)))
   (ak
    (aw (aI (aa (aN ae) (aa (aI (aa aF (aa (aq az (yqv 1 vl) aj) (aa (yqv 4 vl) (aa (yqv 5 vl) ae))))) ae))))))))),?_⟩
 rw [show aP _ [V.ref p,r,x]=[some (.ref p),some r,some x,none,none,none] from rfl]
 cases hv with
 | @deed q0 dd hf hq=>exact absurd hok id
 | @whl q0 a1 n xs1 rows f1 hq ha1 h1=>exact absurd hok id
 | @ifs q0 a1 c1 n xs1 ys1 ones others f1 g1 hq ha1 hc1 h1 h2=>simp only [Stm.deep,Stm.many] at hd hm;obtain ⟨xs0,hbl0,_⟩:=hP.bs;have na1:a1≠bl:=fun z=>nbf (by rw [<- z];simp);have nc1:c1≠bl:=fun z=>nbf (by rw [<- z];simp);have nf1:bl∉f1:=fun z=>nbf (by simp [z]);have ng1:bl∉g1:=fun z=>nbf (by simp [z]);obtain ⟨dx,ob⟩:=hP.ob;rw [FZ.bR] at q;dsimp only at q;rwa [iM,fX];intro a0 ha0;have t0:=Same.upd (o:=.lst []) ha0;have nab0:a0≠bl:=(am hbl0 ha0).symm;refine bq (t0 _ _ ob) rfl (zAU N bl B b (hP.same t0) (hb.same t0) Jy fun H1 sx1 hP1=>?_);have gw:=FZ.b9 b B;generalize FZ.b8 b B=w0 at *;have ea0:H1 a0=some (.lst []):=sx1 _ _ ac nab0;have sx01:=(SameX.of (p:=bl) t0).trans sx1;intro e0 he0 q1 hq1;obtain ⟨sb,hbb⟩:=xg (K:=K) (ed:=.go w0.1) (ds:=[]) ea0 nab0 (hP.nw _ ha0) .nil he0 hq1;have hPG:=hP1.same sb;have sxG:=sx01.trans (SameX.of (p:=bl) sb);rw [show fj (.go w0.1)=[V.str "go",V.int w0.1] from rfl] at sb hbb hPG sxG;generalize upd (upd H1 e0 _) q1 _=G at sb hbb hPG sxG ⊢;obtain ⟨dxG,obG⟩:=hPG.ob;obtain ⟨xsG,hblG,_⟩:=hPG.bs;refine bq obG rfl (bq obG rfl (zAA _ _ ((SameX.tsL2 sxG hbl0).seqT hq) rfl ?_));rwa [fX];have lo1:=FZ.cF ones ⟨[],.go w0.1⟩ w0.2;refine zBH N bl w0.2 ⟨[],.go w0.1⟩ xs1 ones f1 hPG hbb (sxG _ _ ha1 na1) (nD h1 sxG hbl0 nf1) na1 nf1 Jy Jy (cm _) fun y2 H3 s3 hP3 hb3 l3=>?_;generalize FZ.aS ones ⟨[],.go w0.1⟩ w0.2=o at *;have gw2:=FZ.b9 o.1 o.2;refine zAU N bl _ _ hP3 hb3 Jy fun H4 s4 hP4=>?_;generalize FZ.b8 o.1 o.2=wo at *;have sxG4:=s3.trans s4;have sx4:=sxG.trans sxG4;obtain ⟨dx4,ob4⟩:=hP4.ob;obtain ⟨xs4,hbl4,_⟩:=hP4.bs;refine bq ob4 rfl (bq ob4 rfl (zAA _ _ ((SameX.tsL2 sx4 hbl0).seqT hq) rfl ?_));rwa [fX];have lo2:=FZ.cF others ⟨[],.go w0.1⟩ wo.2;refine zBH N bl wo.2 ⟨[],.go w0.1⟩ ys1 others g1 hP4 (hbb.sx sxG4 hblG) (sx4 _ _ hc1 nc1) (nD h2 sx4 hbl0 ng1) nc1 ng1 Jy Jy (cm _) fun y5 H5 s5 hP5 hb5 l5=>?_;generalize FZ.aS others ⟨[],.go w0.1⟩ wo.2=o2 at *;refine zAU N bl _ _ hP5 hb5 Jy fun H6 s6 hP6=>?_;generalize FZ.b8 o2.1 o2.2=wp at *;have sx6:=sx4.trans (s5.trans s6);obtain ⟨xs6,hbl6,_⟩:=hP6.bs;intro a7 ha7;have t7:=Same.upd (o:=.lst []) ha7;refine zAA _ _ ((SameX.tsL2 sx6 hbl0 |>.trans t7.ts).seqT hq) rfl fun e7 he7 q7 hq7=>?_;obtain ⟨sm,hb7⟩:=gx (K:=K) (ed:=.choose n wo.1 wp.1) (ds:=[]) hbl6 (hP6.nw _ ha7) ha7 .nil he7 hq7;exact q _ _ (sx6.trans (SameX.of sm)) (hP6.same sm) hb7 (cm _)
theorem Ce(T:Txt K mg t)(d:Nat)(G_105:FnOk P w K mg base CX0 (3 * d+4) t.f_105 t.e_105 ["self","rows","block"] (iQ K t.C_Parting d)):FnOk P w K mg base CX0 (3 * d+5) t.f_108 t.e_108 ["self","row","block"] (dO K t.C_Parting (d+1) Hd):=by
 have G_104:=@rA P w K mg base t T;have G_102:=@tJ P w K mg base t T;refine T.d_108.F.ok sc_108 ∅ ?_;rintro cdv A outer s H vs Q E hr ⟨p,r,x,rfl,N,bl,B,b,st,f,hP,hb,hv,hok,nbf,hd,hm,h8,q⟩;refine ⟨_,
   (XSs.h
   (ai
    (au (i:=3) sc_108.nd rfl ll (aT T.c_Parting.cl T.d_104 G_104 hr.m (yqv 0 vl) (aa (yqv 2 vl) ae)))
   (ai
    (au (i:=4) sc_108.nd rfl ll (dg T.c_Parting.cl T.d_102 G_102 hr.m (yqv 0 vl)))
   (ai
    (au (i:=5) sc_108.nd rfl ll (aT T.c_Parting.cl T.d_104 G_104 hr.m (yqv 0 vl) (aa (aT T.c_Parting.cl T.d_105 G_105 hr.m (yqv 0 vl) (aa (aq az (yqv 1 vl) aj) (aa (aI (aa (aN ae) (aa (aI (aa aF (aa (yqv 4 vl) ae))) ae))) ae))) ae)))
   (ai
    (fG (aI (aa (aN ae) (aa (aI (aa aF (aa (aq az (yqv 1 vl) aj) (aa (yqv 5 vl) (aa (yqv 3 vl) ae))))) ae))) (nM (aM (yqv 0 vl) rfl) (yqv 4 vl) kD))
   (ak
    (aw (aI (aa (aN ae) (aa (aI (aa aF (aa (yqv 4 vl) ae))) ae)))))))))),?_⟩
 rw [show aP _ [V.ref p,r,x]=[some (.ref p),some r,some x,none,none,none] from rfl]
 cases hv with
 | @deed q0 dd hf hq=>exact absurd hok id
 | @ifs q0 a1 c1 n xs1 ys1 ones others f1 g1 hq ha1 hc1 h1 h2=>exact absurd hok id
 | @whl q0 a1 n xs1 rows f1 hq ha1 h1=>
  simp only [Stm.deep,Stm.many] at hd hm;obtain ⟨xs0,hbl0,_⟩:=hP.bs;have na1:a1≠bl:=fun z=>nbf (by rw [<- z];simp);have nf1:bl∉f1:=fun z=>nbf (by simp [z]);obtain ⟨dx,ob⟩:=hP.ob;rw [FZ.bR] at q;dsimp only at q;rwa [iM,fX,nv];refine bq ob rfl (zAU N bl B b hP hb Jy fun H1 sx1 hP1=>?_);have gw:=FZ.b9 b B;generalize FZ.b8 b B=w0 at *;obtain ⟨dx1,ob1⟩:=hP1.ob;refine bq ob1 rfl ?_;refine zAN N bl w0.2 hP1 Jy fun H2 sx2 hP2=>?_;have sx02:=sx1.trans sx2;obtain ⟨dx2,ob2⟩:=hP2.ob;obtain ⟨xs2,hbl2,_⟩:=hP2.bs;refine bq ob2 rfl (bq ob2 rfl (zAA _ _ ((SameX.tsL2 sx02 hbl0).seqT hq) rfl fun a3 ha3 e3 he3 q3 hq3=>?_));obtain ⟨sm,hb3⟩:=gx (K:=K) (ed:=.go w0.2.length) (ds:=[]) hbl2 (hP2.nw _ ha3) ha3 .nil he3 hq3;rw [show fj (.go w0.2.length)=[V.str "go",V.int w0.2.length] from rfl] at sm hb3;have hP3:=hP2.same sm;have sx03:=sx02.trans (SameX.of (p:=bl) sm);rwa [fX];have lo:=FZ.cF rows ⟨[],.go w0.2.length⟩ (w0.2++[⟨[],.stop⟩]);have go:=FZ.bz rows ⟨[],.go w0.2.length⟩ (w0.2++[⟨[],.stop⟩]);rw [zq4,c9] at lo go;refine zBH N bl (w0.2++[(⟨[],.stop⟩:FZ.Blk)]) ⟨[],.go w0.2.length⟩ xs1 rows f1 hP3 hb3 (sx03 _ _ ha1 na1) (nD h1 sx03 hbl0 nf1) na1 nf1 Jy (by rw [zq4,c9];omega) (cm _) fun y4 H4 s4 hP4 hb4 l4=>?_;generalize FZ.aS rows ⟨[],.go w0.2.length⟩ (w0.2++[⟨[],.stop⟩])=o at *;have gw2:=FZ.b9 o.1 o.2;refine zAU N bl _ _ hP4 hb4 Jy fun H5 s5 hP5=>?_;generalize FZ.b8 o.1 o.2=wo at *;have sx05:=sx03.trans (s4.trans s5);intro a6 ha6;have t6:=Same.upd (o:=.lst []) ha6;refine zAA _ _ ((SameX.tsL2 sx05 hbl0 |>.trans t6.ts).seqT hq) rfl fun e6 he6 q6 hq6=>?_;obtain ⟨xs5,hbl5,_⟩:=hP5.bs;obtain ⟨sm6,hb6⟩:=gx (K:=K) (ed:=.choose n wo.1 w0.1) (ds:=[]) hbl5 (hP5.nw _ ha6) ha6 .nil he6 hq6;rw [show fj (.choose n wo.1 w0.1)=[V.str "choose",V.str n,V.int wo.1,V.int w0.1] from rfl] at sm6 hb6;have hP6:=hP5.same sm6;have sx06:=sx05.trans (SameX.of (p:=bl) sm6);generalize upd (upd (upd H5 a6 _) e6 _) q6 _=G at sm6 hb6 hP6 sx06 ⊢;obtain ⟨dx6,ob6⟩:=hP6.ob;obtain ⟨xs6,hbl6,hxs6⟩:=hP6.bs;have lx6:=hxs6.length;refine bZ ob6 T.c_Parting.cl T.n_Parting_blocks rfl ?_;have sx67:SameX bl G (upd G bl (.lst (xs6.set w0.2.length (.ref q6)))):=SameX.upd;refine zAM bl xs6 _ w0.2.length rfl rfl hbl6 (FL.tD Jy) ?_;have hP7:PartAt K t.C_Parting N (upd G bl (.lst (xs6.set w0.2.length (.ref q6)))) p bl (wo.2.set w0.2.length ⟨[],.choose n wo.1 w0.1⟩):=
   ⟨⟨dx6,sx67 _ _ ob6 hP6.ne⟩,fun c hc=>hP6.nw c (dw hc),_,ac,FL.Paired.put (hb6.sx sx67 hbl6) _ (FL.Paired.imp hxs6 fun y _ c _ h=>h.sx sx67 hbl6)⟩
  have sx07:=sx06.trans sx67;generalize upd G bl _=G2 at hP7 sx07 ⊢;intro a8 ha8 e8 he8 q8 hq8;obtain ⟨xs7,hbl7,_⟩:=hP7.bs;obtain ⟨sm8,hb8⟩:=gx (K:=K) (ed:=.go w0.2.length) (ds:=[]) hbl7 (hP7.nw _ ha8) ha8 .nil he8 hq8;exact q _ _ (sx07.trans (SameX.of sm8)) (hP7.same sm8) hb8 (cm _)
theorem zg(T:Txt K mg t)(d:Nat)(G_107:FnOk P w K mg base CX0 (3 * d+5) t.f_107 t.e_107 ["self","row","block"] (dO K t.C_Parting (d+1) Ha)) (G_108:FnOk P w K mg base CX0 (3 * d+5) t.f_108 t.e_108 ["self","row","block"] (dO K t.C_Parting (d+1) Hd)):FnOk P w K mg base CX0 (3 * (d+1)+3) t.f_106 t.e_106 ["self","row","block"] (dO K t.C_Parting (d+1) fun _=>True):=by
 have G_104:=@rA P w K mg base t T;refine T.d_106.F.ok FY ∅ ?_;rintro cdv A outer s H vs Q E hr ⟨p,r,x,rfl,N,bl,B,b,st,f,hP,hb,hv,hok,nbf,hd,hm,h8,q⟩;obtain ⟨dx,ob⟩:=hP.ob;obtain ⟨xs0,hbl0,_⟩:=hP.bs;refine ⟨_,
   (XSs.h
   (ai
    (aG (ap aZ (aq az (yqv 1 vl) aj) aF (aA _))
     (ak
      (aw (aT T.c_Parting.cl T.d_107 G_107 hr.m (yqv 0 vl) (aa (yqv 1 vl) (aa (yqv 2 vl) ae)))))
     aD)
   (ai
    (aG (ap aZ (aq az (yqv 1 vl) aj) aF (aA _))
     (ak
      (aw (aT T.c_Parting.cl T.d_108 G_108 hr.m (yqv 0 vl) (aa (yqv 1 vl) (aa (yqv 2 vl) ae)))))
     aD)
   (ai
    (aG (ap aZ (aK aJ gl T.z_len PySem.boot_len (aa (aq az (yqv 2 vl) aj) ae)) (zV (v:=.int 8) gl T.g_MOST_DEEDS ⟨_,rfl⟩) (aA _))
     (ak
      (aw (aI (aa (aN (aa (yqv 1 vl) ae)) (aa (aI (aa aF (aa (aT T.c_Parting.cl T.d_104 G_104 hr.m (yqv 0 vl) (aa (yqv 2 vl) ae)) ae))) ae)))))
     aD)
   (ak
    (aw (aI (aa (av eN (aN (aa (yqv 1 vl) ae)) (aq az (yqv 2 vl) aj)) (aa (aq az (yqv 2 vl) aj) ae))))))))),?_⟩
 rw [show aP _ [V.ref p,r,x]=[some (.ref p),some r,some x] from rfl];have hv0:=hv
 cases hv with
 | @ifs q0 a1 c1 n xs1 ys1 ones others f1 g1 hq ha1 hc1 h1 h2=>
  rwa [fE,iM];refine zAA _ _ hq rfl ?_;rwa [fE,iM];refine aB (fun _=>bq ob rfl (zBB N bl B b _ _ (zBG hP hb hv0 trivial nbf hd hm h8 q))) (fun z=>absurd trivial z)
 | @whl q0 a1 n xs1 rows f1 hq ha1 h1=>
  rwa [fE,iM];refine zAA _ _ hq rfl ?_;rwa [fE,iM];refine aB (fun z=>absurd z Jv) (fun _=>zAA _ _ hq rfl ?_);rwa [fE,iM];refine aB (fun _=>bq ob rfl (zBB N bl B b _ _ (zBG hP hb hv0 trivial nbf hd hm h8 q))) (fun z=>absurd trivial z)
 | @deed q0 dd hf hq=>
  rwa [fE,iM];refine jk hf hq Jv Jv Jv (zn _ rfl ?_);rw [if_neg zq3];refine jk hf hq Jv Jv Jv (zn _ rfl ?_);rw [if_neg zq3];obtain ⟨qb,ab,eb,vs,rfl,b1,b2,b3,b4,b5,b6⟩:=id hb;have lv:=b3.length;rw [FZ.bR] at q;simp only [Stm.many] at hm;rwa [fE,iM];refine zAA _ _ (SqT.of b1) rfl (zAA ab vs rfl (.inl (SqL.of b2)) ?_)
  by_cases c8:b.ds.length=8
  ·rw [if_pos c8] at q;rw [if_pos (by rw [lv,c8];rfl)];intro a1 ha1;have t1:=Same.upd (o:=.lst [V.ref q0]) ha1;have n1:a1≠bl:=(am hbl0 ha1).symm;refine bq (t1 _ _ ob) rfl (zAU N bl B b (hP.same t1) (hb.same t1) Jy fun H2 s2 hP2=>?_);have sx2:=(SameX.of (p:=bl) t1).trans s2;intro e3 he3 q3 hq3;obtain ⟨sm,hb3⟩:=xg (K:=K) (ed:=.go (FZ.b8 b B).1) (ds:=[dd]) (s2 _ _ ac n1) n1 (hP.nw _ ha1) (.cons (zAC q0 rfl ((SameX.tsL2 sx2 hbl0).seqT hq) hf) .nil) he3 hq3;exact q _ _ (sx2.trans (SameX.of sm)) (hP2.same sm) hb3 Jz
  ·rw [if_neg c8] at q;rw [if_neg (by rw [lv];simp;omega)];intro a1 ha1;have t1:=Same.upd (o:=.lst [V.ref q0]) ha1;have n1:ab≠a1:=am b2 ha1;refine zAA _ _ (SqT.of (t1 _ _ b1)) rfl (zBA a1 ab _ _ rfl rfl ac (t1 _ _ b2) (by rw [sizeLine_eq,c9];omega) fun a2 ha2=>?_);have t2:=Same.upd (o:=.lst ([V.ref q0]++vs)) ha2;have t12:=t1.trans t2;refine zAA _ _ (SqT.of (t12 _ _ b1)) rfl fun q3 hq3=>?_;have t3:=Same.upd (o:=.tup [V.ref a2,V.ref eb]) hq3;have t13:=t12.trans t3;have n2:a2≠bl:=(am (t1 _ _ hbl0) ha2).symm;refine q _ _ (SameX.of t13) (hP.same t13) (zBE q3 a2 eb _ rfl ac (t3 _ _ ac) ?_ (t13 _ _ b4) n2 (hP.nw _ (t1.free ha2))) (by rw [cJ];omega);exact .cons (zAC q0 rfl (t13.ts.seqT hq) hf) (FL.Paired.imp b3 fun y _ c _ z=>z.ts t13.ts)
def qe(C:Addr):Sp:=fun vs H Q _=>∃(p:Addr)(dx:Addr),vs=[.ref p]/\H p=some (.ins C dx [])/\∀bl,H bl=none->Q .non (upd (upd H bl (.lst [])) p (.ins C dx [("blocks",.ref bl)]))
def lD(K:W.Frag)(C:Addr)(d:Nat)(p:Addr)(H:Hp)(Q:VK):Prop:=∃(wd:Int)(ins oth:List Str)(ss:List Stm)(a b r:Addr)(ys:List V)(g:List Addr),ProgAt K C H p wd ins oth ss a b r ys g/\bJ ss<d/\3 * aY ss<3900/\
 ∀bl xs H',Same H H'->H bl=none->H' bl=some (.lst xs)->Paired (BlkV K (fun c=>H c=none) H' bl) xs (FZ.aW ss)->Q (.ref bl) H'
def mm(K:W.Frag)(C:Addr)(d:Nat):Sp:=fun vs H Q _=>∃p:Addr,vs=[.ref p]/\lD K C d p H Q
theorem yG{C p:Addr}{d:Nat}{H:Hp}{Q:VK}{E:XK}:mm K C d [.ref p] H Q E=lD K C d p H Q:=propext ⟨by rintro ⟨_,e,q⟩;cases e;exact q,fun q=>zn _ rfl q⟩
theorem BY{C p:Addr}{H:Hp}{Q:VK}{E:XK}:qe C [.ref p] H Q E=∃dx,H p=some (.ins C dx [])/\∀bl,H bl=none->Q .non (upd (upd H bl (.lst [])) p (.ins C dx [("blocks",.ref bl)])):=propext ⟨by rintro ⟨_,dx,e,q⟩;cases e;exact ⟨dx,q⟩,fun ⟨dx,q⟩=>zAD _ dx rfl q⟩
theorem yc(T:Txt K mg t):FnOk P w K mg base CX0 1 t.f_101 t.e_101 ["self"] (qe t.C_Parting):=by
 refine T.d_101.F.ok FQ ∅ ?_;rintro cdv A outer s H vs Q E hr ⟨p,dx,rfl,hp,q⟩;refine ⟨_,
   (XSs.h
   (ak
    (bI (yqv 0 vl) (aN ae) rfl))),?_⟩
 rw [show aP _ [V.ref p]=[some (.ref p)] from rfl];rwa [];intro bl hbl;have np:p≠bl:=am hp hbl;refine fk (by rw [ao np];exact hp) T.c_Parting.cl T.n_Parting_blocks Jz ?_;rw [bN JA,qM];exact q bl hbl
theorem kn(T:Txt K mg t):∀d,FnOk P w K mg base CX0 (3 * d+3) t.f_106 t.e_106 ["self","row","block"] (dO K t.C_Parting d fun _=>True)/\FnOk P w K mg base CX0 (3 * d+4) t.f_105 t.e_105 ["self","rows","block"] (iQ K t.C_Parting d)
 |0=>by
  have h0:FnOk P w K mg base CX0 (3 * 0+3) t.f_106 t.e_106 ["self","row","block"] (dO K t.C_Parting 0 fun _=>True):=⟨fun vs H Q E h=>by obtain ⟨_,_,_,_,_,_,_,_,_,_,_,_,_,_,_,h,_⟩:=h;omega,fun _ _ _ _ _ _ _ _ _ _ _ _ _ h=>by obtain ⟨_,_,_,_,_,_,_,_,_,_,_,_,_,_,_,h,_⟩:=h;omega⟩
  exact ⟨h0,mf T 0 h0⟩
 |d+1=>by have h1:=zg T d (B8 T d (kn T d).2) (Ce T d (kn T d).2);exact ⟨h1,mf T (d+1) h1⟩
theorem vF(T:Txt K mg t)(d:Nat):FnOk P w K mg base CX0 (3 * d+5) t.f_100 t.e_100 ["program"] (mm K t.C_Program d):=by
 have G_101:=@yc P w K mg base t T;have G_102:=@tJ P w K mg base t T;have G_105:=(@kn P w K mg base t T d).2;refine T.d_100.F.ok sc_100 ∅ ?_;rintro cdv A outer s H vs Q E hr ⟨p,rfl,wd,ins,oth,ss,a,b,r,ys,g,hP,hd,hm,q⟩;refine ⟨_,
   (XSs.h
   (ai
    (au (i:=1) sc_100.nd rfl ll (sA T.c_Parting T.d_101 G_101 hr.m gl))
   (ai
    (au (i:=2) sc_100.nd rfl ll (dg T.c_Parting.cl T.d_102 G_102 hr.m (yqv 1 vl)))
   (ai
    (fG (aT T.c_Parting.cl T.d_105 G_105 hr.m (yqv 1 vl) (aa (aM (yqv 0 vl) rfl) (aa (aI (aa (aN ae) (aa (aI (aa aF ae)) ae))) ae))) (nM (aM (yqv 1 vl) rfl) (yqv 2 vl) kD))
   (ak
    (aw (aM (yqv 1 vl) rfl))))))),?_⟩
 rw [show aP _ [V.ref p]=[some (.ref p),none,none] from rfl];rwa [nv,fX];intro x dx hx hdx hne;rwa [BY,nv,fX];refine zn dx ac fun bl hbl=>?_;have hbl0:H bl=none:=dw (dw hbl);have nxb:x≠bl:=am ac hbl;have e2:upd (upd (upd (upd H dx (.own x)) x (.ins t.C_Parting dx [])) bl (.lst [])) x (.ins t.C_Parting dx [("blocks",.ref bl)]) bl=some (.lst []):=by rw [ao nxb.symm];exact ac
 have hQ:PartAt K t.C_Parting (fun c=>H c=none) (upd (upd (upd (upd H dx (.own x)) x (.ins t.C_Parting dx [])) bl (.lst [])) x (.ins t.C_Parting dx [("blocks",.ref bl)])) x bl []:=
  ⟨⟨dx,ac⟩,fun c hc=>dw (dw (dw (dw hc))),[],e2,.nil⟩
 have s2:Same H (upd (upd (upd (upd H dx (.own x)) x (.ins t.C_Parting dx [])) bl (.lst [])) x (.ins t.C_Parting dx [("blocks",.ref bl)])):=(((Same.upd hdx).updM hx).updM hbl0).updM hx;generalize upd (upd (upd (upd H dx (.own x)) x (.ins t.C_Parting dx [])) bl (.lst [])) x (.ins t.C_Parting dx [("blocks",.ref bl)])=H2 at *;obtain ⟨dx2,ob2⟩:=hQ.ob;refine bq ob2 rfl (zAN _ bl ([]) hQ Jx fun H3 sx3 hP3=>?_);have n0:∀c o,H c=some o->c≠bl:=fun c o e=>am e hbl0;have s3:Same H H3:=fun c o e=>sx3 c o (s2 _ _ e) (n0 c o e);obtain ⟨dx3,ob3⟩:=hP3.ob;obtain ⟨dp,obp⟩:=hP.ob;refine bq ob3 rfl ?_;refine bZ (s3 _ _ obp) T.c_Program.cl T.n_Program_rows rfl ?_;rwa [nv,fX];intro a4 ha4 e4 he4 q4 hq4;obtain ⟨xs3,hbl3,_⟩:=hP3.bs;obtain ⟨sm,hb4⟩:=gx (K:=K) (N:=fun c=>H c=none) (ed:=.stop) (ds:=[]) hbl3 (hP3.nw _ ha4) ha4 .nil he4 hq4;rw [show fj .stop=[V.str "stop"] from rfl] at sm hb4;have hP4:=hP3.same sm;have s4:=s3.trans sm;generalize upd (upd (upd H3 a4 _) e4 _) q4 _=G at sm hb4 hP4 s4 ⊢;have nf:bl∉g:=fun z=>by obtain ⟨zs,hz⟩:=hP.st.tracked bl z;rw [hbl0] at hz;cases hz
 refine zBH _ bl _ _ ys ss g hP4 hb4 (s4 _ _ hP.rs) (hP.st.same s4) (n0 _ _ hP.rs) nf hd (by simp;omega) Jz fun y H5 sx5 hP5 hb5 _=>?_;rw [qM] at hP5 hb5;have eB:FZ.aW ss=(FZ.aS ss ⟨[],.stop⟩ [⟨[],.stop⟩]).2.set 0 (FZ.aS ss ⟨[],.stop⟩ [⟨[],.stop⟩]).1:=rfl;have ho:=FZ.bz ss ⟨[],.stop⟩ [⟨[],.stop⟩];generalize FZ.aS ss ⟨[],.stop⟩ [⟨[],.stop⟩]=o at *;have s5:Same H H5:=fun c o e=>sx5 c o (s4 _ _ e) (n0 c o e);obtain ⟨dx5,ob5⟩:=hP5.ob;obtain ⟨xs5,hbl5,hxs5⟩:=hP5.bs;have lx5:=hxs5.length;rw [c9] at ho;refine bZ ob5 T.c_Parting.cl T.n_Parting_blocks rfl ?_;refine zAM bl xs5 _ 0 rfl rfl hbl5 (FL.tD (k:=0) Jy) ?_;have sx6:SameX bl H5 (upd H5 bl (.lst (xs5.set 0 y))):=SameX.upd;refine bZ (sx6 _ _ ob5 hP5.ne) T.c_Parting.cl T.n_Parting_blocks rfl ?_;refine q bl _ _ (fun c o e=>sx6 c o (s5 _ _ e) (n0 c o e)) hbl0 ac ?_;rw [eB];exact FL.Paired.put (hb5.sx sx6 hbl5) _ (FL.Paired.imp hxs5 fun y _ c _ h=>h.sx sx6 hbl5)
variable {H:Hp} {a:Addr}
theorem tj{o:FB.Opd}:List.map id (List.filter k9 [o.v])=o.reads.map V.str:=by cases o<;>rfl
theorem xq{o p:FB.Opd}:List.map id (List.filter k9 [o.v,p.v])=(o.reads++p.reads).map V.str:=by cases o<;>cases p<;>rfl
theorem mW{o:FB.Opd}{Q:VK}(h:Q (.bl (k9 o.v)) H):vU K [o.v,.ty "str"] H Q:=by
 cases o with
 |box n=>exact r_isi_str_str.mpr h
 |word i=>exact r_isi_int_str.mpr h
theorem rF{f:Str}(h:f∈FB.opsL):¬f="tell":=by
 rintro rfl
 revert h
 decide +kernel
theorem ix0{d:FB.Deed}{Z:V->Hp->Prop}(f:d.fine)(hS:SqT K H a d.vs)(h:Z (.bl d.tells) H):∃xs v,SqT K H a xs/\atI xs 0=some v/\rEq v (.str "tell") H Z:=by
 cases d with
 |tell o=>exact zAE _ _ hS rfl rfl h
 |copy n o=>exact zAE _ _ hS rfl rfl h
 |op g n o p=>refine zAE _ _ hS rfl rfl ?_;have e:decide (V.str g=V.str "tell")=false:=decide_eq_false (fun z=>rF f (V.str.inj z));rw [e];exact h
theorem IN{d:FB.Deed}{Z:V->Hp->Prop}(f:d.fine)(hS:SqT K H a d.vs)(h:Z (.bl (!d.tells)) H):∃xs v,SqT K H a xs/\atI xs 0=some v/\rNe v (.str "tell") H Z:=by
 obtain ⟨xs,v,h1,h2,h3,h4⟩:=ix0 (Z:=fun x H'=>∃b,x=.bl b/\Z (.bl (!b)) H') f hS (zn _ rfl h);obtain ⟨b,e,h4⟩:=h4
 cases e
 exact zAE xs v h1 h2 h3 h4
def wr(d:FB.Deed):Str:=d.writes.headD ""
theorem ix1{d:FB.Deed}{Z:V->Prop}(f:d.tells=false)(hS:SqT K H a d.vs)(h:Z (.str (wr d))):∃xs v,SqT K H a xs/\atI xs 1=some v/\Z v:=by
 cases d with
 |tell o=>cases f
 |copy n o=>exact zAA _ _ hS rfl h
 |op g n o p=>exact zAA _ _ hS rfl h
theorem Iw{d:FB.Deed}(f:d.tells=true):d.writes=[]:=by
 cases d with
 |tell o=>rfl
 |copy n o=>cases f
 |op g n o p=>cases f
def gN:FB.Deed->List FB.Opd
 | .tell a=>[a]
 | .copy _ a=>[a]
 | .op _ _ a b=>[a,b]
def wrV(d:FB.Deed):V:=match d.writes with | []=>.non | n::_=>.str n
def uo(K:W.Frag):Sp:=fun vs H Q _=>∃(a:Addr)(d:FB.Deed),vs=[.ref a]/\SqT K H a d.vs/\d.fine/\∀p,H p=none->Q (.ref p) (upd H p (.tup ((gN d).map FB.Opd.v)))
def kI(K:W.Frag):Sp:=fun vs H Q _=>∃(a:Addr)(d:FB.Deed),vs=[.ref a]/\SqT K H a d.vs/\d.fine/\Q (wrV d) H
theorem pI{d:FB.Deed}:(gN d).length<=2:=by cases d<;>simp [gN]
theorem tL(T:Txt K mg t):FnOk P w K mg base CX0 1 t.f_114 t.e_114 ["deed"] (uo K):=by
 refine T.d_114.F.ok G5 ∅ ?_;rintro cdv A outer s H vs Q E hr ⟨a,d,rfl,hS,hf,q⟩;refine ⟨_,
   (XSs.h
   (ak
    (aw (cH (ap aZ (aq az (yqv 0 vl) aj) aF (aA _)) (df zm (yqv 0 vl) (d7 aj) g8) (df zm (yqv 0 vl) (d7 aj) g8))))),?_⟩
 rw [show aP _ [V.ref a]=[some (.ref a)] from rfl];rwa [];refine ix0 hf hS (zn _ rfl ?_)
 cases d with
 |tell o=>exact zAC _ hS (kh (k:=1) (show ¬HT.sIx 2 0 (some 1)=0 by decide)) q
 |copy n o=>exact zAC _ hS (kh (k:=2) (show ¬HT.sIx 3 0 (some 2)=0 by decide)) q
 |op f n o o2=>exact zAC _ hS (kh (k:=2) (show ¬HT.sIx 4 0 (some 2)=0 by decide)) q
theorem yQ{a:Addr}{H:Hp}{Q:VK}{E:XK}:uo K [.ref a] H Q E=∃d:FB.Deed,SqT K H a d.vs/\d.fine/\∀p,H p=none->Q (.ref p) (upd H p (.tup ((gN d).map FB.Opd.v))):=propext ⟨by rintro ⟨_,d,e,q⟩;cases e;exact ⟨d,q⟩,by rintro ⟨d,q⟩;exact zAD a d rfl q⟩
theorem fz(T:Txt K mg t):FnOk P w K mg base CX0 1 t.f_116 t.e_116 ["deed"] (kI K):=by
 refine T.d_116.F.ok G7 ∅ ?_;rintro cdv A outer s H vs Q E hr ⟨a,d,rfl,hS,hf,q⟩;refine ⟨_,
   (XSs.h
   (ak
    (aw (cH (ap aZ (aq az (yqv 0 vl) aj) aF (aA _)) d5 (aq az (yqv 0 vl) aj))))),?_⟩
 rw [show aP _ [V.ref a]=[some (.ref a)] from rfl];rwa [];refine ix0 hf hS (zn _ rfl ?_)
 cases d with
 |tell o=>exact q
 |copy n o=>exact zAA _ _ hS rfl q
 |op f n o o2=>exact zAA _ _ hS rfl q
theorem cU{a:Addr}{H:Hp}{Q:VK}{E:XK}:kI K [.ref a] H Q E=∃d:FB.Deed,SqT K H a d.vs/\d.fine/\Q (wrV d) H:=propext ⟨by rintro ⟨_,d,e,q⟩;cases e;exact ⟨d,q⟩,by rintro ⟨d,q⟩;exact zAD a d rfl q⟩
def i4:Sp:=fun vs H Q _=>∃w:Int,vs=[.int w]/\0<=w/\w<=8/\Q (.int (2 ^ w.toNat)) H
theorem ny{w:Int}{H:Hp}{Q:VK}{E:XK}:i4 [.int w] H Q E=(0<=w/\w<=8/\Q (.int (2 ^ w.toNat)) H):=propext ⟨by rintro ⟨_,e,q⟩;cases e;exact q,by intro q;exact zn w rfl q⟩
def jr:Sp:=fun vs H Q _=>∃(op:Str)(x y w:Int),vs=[.str op,.int x,.int y,.int w]/\0<=w/\w<=8/\Q (.int (jB op x y w)) H
theorem rP{op:Str}{x y w:Int}{H:Hp}{Q:VK}{E:XK}:jr [.str op,.int x,.int y,.int w] H Q E=(0<=w/\w<=8/\Q (.int (jB op x y w)) H):=propext ⟨by rintro ⟨_,_,_,_,e,q⟩;cases e;exact q,by intro q;exact zAP op x y w rfl q⟩
theorem kZ(T:Txt K mg t):FnOk P w K mg base CX0 1 t.f_112 t.e_112 ["width"] i4:=by
 refine T.d_112.F.ok sc_112 ∅ ?_;rintro cdv A outer s H vs Q E hr ⟨w,rfl,h0,h8,q⟩;refine ⟨_,
   (XSs.h
   (ai
    (au (i:=1) sc_112.nd rfl ll aj)
   (ai
    (bG PassesOwn.never rfl (cQ gl T.z_range (aa (yqv 0 vl) ae)) (aC (i:=2) sc_112.nd rfl ll)
     (ak
      (au (i:=1) sc_112.nd rfl ll (av d8 (yqv 1 vl) aj))))
   (ak
    (aw (yqv 1 vl)))))),?_⟩
 rw [show aP _ [V.int w]=[some (.int w),none,none] from rfl];rwa [];refine zAB Jy Jy (gu (fun i σ H'=>H'=H/\∃b,σ=[some (.int w),some (.int (2 ^ i)),b]) ⟨rfl,none,rfl⟩ ?_ ?_)
 ·rintro i σ H2 hi ⟨rfl,b,rfl⟩;rwa [];exact ⟨.inr ⟨Jx,Jx⟩,_,by rw [Int.pow_succ]⟩
 ·rintro σ H2 ⟨rfl,b,rfl⟩;rwa [];exact q
theorem pG(T:Txt K mg t):FnOk P w K mg base CX0 2 t.f_113 t.e_113 ["op","x","y","width"] jr:=by
 have G_112:=@kZ P w K mg base t T;refine T.d_113.F.ok G4 ∅ ?_;rintro cdv A outer s H vs Q E hr ⟨op,x,y,w,rfl,h0,h8,q⟩;refine ⟨_,
   (XSs.h
   (ai
    (aG (ap aZ (yqv 0 vl) aF (aA _))
     (ak
      (aw (av aX (av bo (yqv 1 vl) (yqv 2 vl)) (ax T.d_112 G_112 hr.m (aa (yqv 3 vl) ae) gl))))
     aD)
   (ai
    (aG (ap aZ (yqv 0 vl) aF (aA _))
     (ak
      (aw (av aX (av gL (yqv 1 vl) (yqv 2 vl)) (ax T.d_112 G_112 hr.m (aa (yqv 3 vl) ae) gl))))
     aD)
   (ai
    (aG (ap aZ (yqv 0 vl) aF (aA _))
     (ak
      (aw (av Co (yqv 1 vl) (yqv 2 vl))))
     aD)
   (ai
    (aG (ap aZ (yqv 0 vl) aF (aA _))
     (ak
      (aw (av GI (yqv 1 vl) (yqv 2 vl))))
     aD)
   (ai
    (aG (ap aZ (yqv 0 vl) aF (aA _))
     (ak
      (aw (av Cp (yqv 1 vl) (yqv 2 vl))))
     aD)
   (ai
    (aG (ap aZ (yqv 0 vl) aF (aA _))
     (ak
      (aw (cH (ap g9 (yqv 1 vl) (yqv 2 vl) (aA _)) aj aj)))
     aD)
   (ak
    (aw (cH (ap aZ (yqv 1 vl) (yqv 2 vl) (aA _)) aj aj)))))))))),?_⟩
 rw [show aP _ [V.str op,V.int x,V.int y,V.int w]=[some (.str op),some (.int x),some (.int y),some (.int w)] from rfl];rwa [ny];unfold jB at q;have hp:(0:Int)<2 ^ w.toNat:=qH Jx;refine aB (fun e=>?_) (fun e=>?_)
 ·rw [if_pos e] at q;exact zAG h0 h8 hp q
 rw [if_neg e] at q;refine aB (fun e=>?_) (fun e=>?_)
 ·rw [if_pos e] at q;exact zAG h0 h8 hp q
 rw [if_neg e] at q;refine aB (fun e=>?_) (fun e=>?_)
 ·rw [if_pos e] at q;exact q
 rw [if_neg e] at q;refine aB (fun e=>?_) (fun e=>?_)
 ·rw [if_pos e] at q;exact q
 rw [if_neg e] at q;refine aB (fun e=>?_) (fun e=>?_)
 ·rw [if_pos e] at q;exact q
 rw [if_neg e] at q;refine aB (fun e=>?_) (fun e=>?_)
 ·rw [if_pos e] at q;refine aB (fun e=>?_) (fun e=>?_)
  ·rw [if_pos e] at q;exact q
  ·rw [if_neg e] at q;exact q
 rw [if_neg e] at q;refine aB (fun e=>?_) (fun e=>?_)
 ·rw [if_pos e] at q;exact q
 ·rw [if_neg e] at q;exact q
def nC(K:W.Frag):Sp:=fun vs H Q _=>∃(o:Opd)(bx:Addr)(b:Bx)(ns:List Str)(w:Int),vs=[o.v,.ref bx]/\H bx=some (.dK b)/\BxG ns w b/\Opd.good ns w o/\Q (.int (eA b o)) H
def AT(K:W.Frag)(a:Addr)(bx:Addr)(w:Int)(H:Hp)(Q:VK):Prop:=∃(d:Deed)(b:Bx)(ns:List Str),SqT K H a d.vs/\H bx=some (.dK b)/\BxG ns w b/\d.fine/\Deed.good ns w d/\1<=w/\w<=8/\∀H',Same H H'->Q (.int (cR b w d)) H'
def um(K:W.Frag):Sp:=fun vs H Q _=>∃(a:Addr)(bx:Addr)(w:Int),vs=[.ref a,.ref bx,.int w]/\AT K a bx w H Q
theorem Bt(T:Txt K mg t):FnOk P w K mg base CX0 1 t.f_118 t.e_118 ["operand","boxes"] (nC K):=by
 refine T.d_118.F.ok G9 ∅ ?_;rintro cdv A outer s H vs Q E hr ⟨o,bx,b,ns,w,rfl,hB,hG,ho,q⟩;have hu:=dE hr;refine ⟨_,
   (XSs.h
   (ak
    (aw (cH (cj (aK eS gl T.z_isinstance boot_isinstance (aa (yqv 0 vl) (aa (f7 (v:=.ty "str") gl T.z_str boot_str rfl) ae)))) (cE hu (yqv 1 vl) (yqv 0 vl) (fun _ _=>rfl)) (yqv 0 vl))))),?_⟩
 rw [show aP _ [o.v,V.ref bx]=[some o.v,some (.ref bx)] from rfl];rwa [];refine mW (zn _ rfl ?_)
 cases o with
 |box n=>exact zAA bx _ rfl (.inl (zAA b (.inr n) (.inl hB) rfl (hG.val ho).symm)) q
 |word i=>exact q
theorem kA{o:Opd}{bx:Addr}{H:Hp}{Q:VK}{E:XK}:nC K [o.v,.ref bx] H Q E=∃(b:Bx)(ns:List Str)(w:Int),H bx=some (.dK b)/\BxG ns w b/\Opd.good ns w o/\Q (.int (eA b o)) H:=
 propext ⟨fun ⟨o',_,b,ns,w,e,q⟩=>by
  have e2:o=o':=by
   injection e with e1 _
   cases o<;>cases o'<;>first | (injection e1 with e1;rw [e1]) | cases e1
  subst e2;injection e with _ e;injection e with e _;injection e with e;subst e;exact zAH b ns w q,fun ⟨b,ns,w,q⟩=>zAS o bx b ns w ⟨rfl,q⟩⟩
theorem vO{ns:List Str}{w:Int}{d:Deed}(h:Deed.good ns w d):∀o∈gN d,Opd.good ns w o:=by
 cases d with
 |tell a=>intro o ho;rw [zq2.mp ho];exact h
 |copy n a=>intro o ho;rw [zq2.mp ho];exact h.2
 |op f n a c=>
  intro o ho;rcases zq5.mp ho with z | z
  ·rw [z];exact h.2.2.1
  ·rw [zq2.mp z];exact h.2.2.2
theorem tK(T:Txt K mg t):FnOk P w K mg base CX0 3 t.f_119 t.e_119 ["deed","boxes","width"] (um K):=by
 have G_114:=@tL P w K mg base t T;have G_118:=@Bt P w K mg base t T;have G_113:=@pG P w K mg base t T;refine T.d_119.F.ok sc_119 ∅ ?_;rintro cdv A outer s H vs Q E hr ⟨a,bx,w,rfl,d,b,ns,hA,hB,hG,hf,hd,w1,w8,q⟩;refine ⟨_,
   (XSs.h
   (ai
    (eJ (i:=3) sc_119.nd rfl ll rfl Jw (tns:=["operand"]) (cns:=["boxes"]) (ci:=[1]) rfl (CompSc.of Jw) (uF (ax T.d_114 G_114 hr.m (aa (yqv 0 vl) ae) gl)) (fun _=>(aC (i:=1) (show List.Nodup [(".0":Str),("operand":Str),("boxes":Str)] by decide +kernel) rfl ll (Or.inr Jw))) (fun _=>cz) (fun _=>(ax T.d_118 G_118 hr.m (aa (yqv 1 vl) (aa (yqv 2 vc) ae)) gl)))
   (ai
    (aG (ap aZ (aK aJ gl T.z_len PySem.boot_len (aa (yqv 3 vl) ae)) aj (aA _))
     (ak
      (aw (aq b7 (yqv 3 vl) aj)))
     aD)
   (ak
    (aw (ax T.d_113 G_113 hr.m (aa (aq az (yqv 0 vl) aj) (aa (aq b7 (yqv 3 vl) aj) (aa (aq b7 (yqv 3 vl) aj) (aa (yqv 2 vl) ae)))) gl)))))),?_⟩
 rw [show aP _ [V.ref a,V.ref bx,V.int w]=[some (.ref a),some (.ref bx),some (.int w),none] from rfl];rwa [yQ];refine zAC d hA hf fun p hp=>⟨⟨_,SqT.of ac⟩,fun acc hacc bk=>?_⟩;have s1:Same H (upd H p (.tup ((gN d).map Opd.v))):=Same.upd hp;refine AY (xs:=(gN d).map Opd.v) (fun x=>match x with | .int i=>.int i | .str n=>.int (aH b n) | _=>.non) (by rw [sizeLine_eq,zq1];have:=pI (d:=d);omega) (SqT.of ac) hacc (fun x hm H3 Q' s3 h=>?_) ?_
 ·obtain ⟨o,ho,rfl⟩:=zq23.mp hm;rwa [kA];refine zAO b ns w (s3 _ _ (s1 _ _ hB)) hG (vO hd o ho) ?_
  cases o<;>exact h
 ·have em:List.map (fun x:V=>match x with | .int i=>V.int i | .str n=>V.int (aH b n) | _=>V.non) ((gN d).map Opd.v)=(gN d).map fun o=>V.int (eA b o):=by
   rw [jH];refine wM fun o _=>?_
   cases o<;>rfl
  rw [em];have s2:=s1.updN (o:=.lst ((gN d).map fun o=>V.int (eA b o))) hacc;have hA2:=s2.seqT hA;have hL:upd (upd H p (.tup ((gN d).map Opd.v))) acc (.lst ((gN d).map fun o=>V.int (eA b o))) acc=some (.lst ((gN d).map fun o=>V.int (eA b o))):=ac;have q2:=q _ s2;generalize upd (upd H p (.tup ((gN d).map Opd.v))) acc (.lst ((gN d).map fun o=>V.int (eA b o)))=H2 at s2 hA2 hL q2 ⊢
  cases d with
  |tell o=>exact zn _ (.inl (SqL.of hL)) (aB (fun _=>zAA _ _ (SqL.of hL) rfl q2) (fun e=>absurd rfl e))
  |copy n o=>exact zn _ (.inl (SqL.of hL)) (aB (fun _=>zAA _ _ (SqL.of hL) rfl q2) (fun e=>absurd rfl e))
  |op f n o o2=>refine zn _ (.inl (SqL.of hL)) (aB (fun e=>absurd (show ((2:Nat):Int)=1 from e) Jx) (fun _=>zAA _ _ hA2 rfl (zAA _ _ (SqL.of hL) rfl (zAA _ _ (SqL.of hL) rfl ?_))));rwa [rP];exact zAB Jy w8 q2
theorem ky{a bx:Addr}{w:Int}{H:Hp}{Q:VK}{E:XK}:um K [.ref a,.ref bx,.int w] H Q E=∃(d:Deed)(b:Bx)(ns:List Str),SqT K H a d.vs/\H bx=some (.dK b)/\BxG ns w b/\d.fine/\Deed.good ns w d/\1<=w/\w<=8/\∀H',Same H H'->Q (.int (cR b w d)) H':=propext ⟨by rintro ⟨_,_,_,e,q⟩;cases e;exact q,fun q=>zAK _ _ _ rfl q⟩
variable {H:Hp} {c:Addr}
def WordsIn(H:Hp)(c:Addr)(ws:Bx)(ins:List Str)(w:Int):Prop:=Rd H c (.dK ws)/\∀n∈ins,∃x,jC ws n=some x/\0<=x/\x<2 ^ w.toNat
theorem WordsIn.get{ws:Bx}{ins:List Str}{w:Int}(h:WordsIn H c ws ins w):∀n∈ins,0<=aH ws n/\aH ws n<2 ^ w.toNat:=fun n hn=>by obtain ⟨x,e,h0,h1⟩:=h.2 n hn;unfold aH;rw [e];exact ⟨h0,h1⟩
theorem WordsIn.same{H':Hp}{ws:Bx}{ins:List Str}{w:Int}(h:WordsIn H c ws ins w)(s:Same H H'):WordsIn H' c ws ins w:=⟨by
 rcases h.1 with z | ⟨o,z⟩
 ·exact .inl (s _ _ z)
 ·exact .inr ⟨o,s _ _ z⟩,h.2⟩
def x8(K:W.Frag)(C:Addr)(p:Addr)(c:Addr)(H:Hp)(Q:VK):Prop:=∃(wd:Int)(ins:List Str)(oth:List Str)(ss:List Stm)(a:Addr)(b:Addr)(r:Addr)(xs:List V)(f:List Addr)(ws:Bx),ProgAt K C H p wd ins oth ss a b r xs f/\WordsIn H c ws ins wd/\(ins++oth).length<=1000/\
 ∀l H',Same H H'->H l=none->H' l=some (.dK (aV ins ws (ins++oth)))->Q (.ref l) H'
def pW(K:W.Frag)(C:Addr):Sp:=fun vs H Q _=>∃(p:Addr)(c:Addr),vs=[.ref p,.ref c]/\x8 K C p c H Q
theorem pF(T:Txt K mg t):FnOk P w K mg base CX0 1 t.f_129 t.e_129 ["program","words"] (pW K t.C_Program):=by
 refine T.d_129.F.ok sc_129 ∅ ?_;rintro cdv A outer s H vs Q E hr ⟨p,c,rfl,wd,ins,oth,ss,a,b,r,xs,f,ws,hP,hW,hl,q⟩;have hu:=dE hr;refine ⟨_,
   (XSs.h
   (ai
    (au (i:=2) sc_129.nd rfl ll jf)
   (ai
    (bG PassesOwn.never rfl (bc (aM (yqv 0 vl) rfl)) (aC (i:=3) sc_129.nd rfl ll)
     (ak
      (dz hu (yqv 2 vl) (yqv 3 vl) (cH (ap cu (yqv 3 vl) (aM (yqv 0 vl) rfl) rfl) (cE hu (yqv 1 vl) (yqv 3 vl) (fun _ _=>rfl)) aj) rfl)))
   (ak
    (aw (yqv 2 vl)))))),?_⟩
 rw [show aP _ [V.ref p,V.ref c]=[some (.ref p),some (.ref c),none,none] from rfl];rwa [];intro l hl0;have s1:Same H (upd H l (.dK [])):=Same.upd hl0;obtain ⟨dx,hob⟩:=hP.ob;refine bZ (s1 _ _ hob) T.c_Program.cl T.n_Program_boxes rfl ?_;refine zAC b rfl ⟨_,SqL.of (s1 _ _ hP.bx)⟩ ?_;refine dk (xs:=(ins++oth).map V.str) (fun i σ H'=>Same H H'/\H' l=some (.dK (aV ins ws ((ins++oth).take i)))/\∃o,σ=[some (.ref p),some (.ref c),some (.ref l),o])
  (zAB s1 ac ⟨_,rfl⟩) (fun i σ H' _ h=>SqL.of (h.1 _ _ hP.bx)) ?_ ?_
 ·rintro i x σ H' hx ⟨sm,hd,o,rfl⟩;rw [cn] at hx;obtain ⟨n,hn,rfl⟩:=zq32.mp hx;obtain ⟨hi,hne⟩:=zq10.mp hn;rwa [];obtain ⟨dx,hob⟩:=hP.ob;refine bZ (sm _ _ hob) T.c_Program.cl T.n_Program_ins rfl ?_;rwa [];have en:aV ins ws ((ins++oth).take (i+1))=bv (aV ins ws ((ins++oth).take i)) (.inr n) (.int (if n∈ins then aH ws n else 0)):=by rw [eg hi,hne,eG]
  have lb:(aV ins ws ((ins++oth).take i)).length<sizeLine:=by have:=(lS hW.get _ ((ins++oth).take i) rfl).2.1;rw [dS] at this;rw [sizeLine_eq];omega
  refine zAF _ (.inl (SqL.of (sm _ _ hP.ia))) rfl gr ?_;rw [dI];refine aB (fun e=>?_) (fun e=>?_)
  ·obtain ⟨x,hx,_⟩:=hW.2 n e;have hx2:aH ws n=x:=by unfold aH;rw [hx];rfl
   rw [if_pos e,hx2] at en;refine zAA c (.int x) rfl (.inl (zAA ws (.inr n) (hW.same sm).1 rfl (zT hx).symm)) (zAF _ (DPut.k (k:=.inr n) hd lb) (sm.updM hl0) ?_ ⟨_,rfl⟩);rw [ac,en]
  ·rw [if_neg e] at en;refine zAF _ (DPut.k (k:=.inr n) hd lb) (sm.updM hl0) ?_ ⟨_,rfl⟩;rw [ac,en]
 ·rintro σ H' ⟨sm,hd,o,rfl⟩;rwa [];rw [zq1,eE] at hd;exact q l H' sm hl0 hd
theorem iK{C p:Addr}{Q:VK}{E:XK}:pW K C [.ref p,.ref c] H Q E=∃(wd:Int)(ins oth:List Str)(ss:List Stm)(a b r:Addr)(xs:List V)(f:List Addr)(ws:Bx),ProgAt K C H p wd ins oth ss a b r xs f/\WordsIn H c ws ins wd/\(ins++oth).length<=1000/\
  ∀l H',Same H H'->H l=none->H' l=some (.dK (aV ins ws (ins++oth)))->Q (.ref l) H':=propext ⟨by rintro ⟨_,_,e,q⟩;cases e;exact q,fun q=>zAD _ _ rfl q⟩
variable {E:XK} {Q:VK}
def Ik(wd:Int)(lf bx td:Addr):List (Str×V):=[("width",.int wd),("left",.ref lf),("boxes",.ref bx),("told",.ref td)]
structure RunH(K:W.Frag)(C:Addr)(H0 H:Hp)(p lf bx td:Addr)(wd:Int)(st:Stt):Prop where
 same:Same H0 H
 ob:∃dx,H p=some (.ins C dx (Ik wd lf bx td))
 rows:∃xs,H lf=some (.lst xs)/\Paired (fun x s=>∃f,StmV K H0 x s f) xs.reverse st.left
 bxs:H bx=some (.dK st.bx)
 tds:H td=some (.lst (st.told.map V.int))
 fr:H0 p=none/\H0 lf=none/\H0 bx=none/\H0 td=none
 ne:lf≠td
section
variable {K:W.Frag} {C p lf bx td:Addr} {H0 H H':Hp} {wd:Int} {st:Stt}
theorem RunH.mv(h:RunH K C H0 H p lf bx td wd st)(s:Same H H'):RunH K C H0 H' p lf bx td wd st:=
 ⟨h.same.trans s,let ⟨dx,e⟩:=h.ob;⟨dx,s _ _ e⟩,let ⟨xs,e,r⟩:=h.rows;(zn xs (s _ _ e) r),s _ _ h.bxs,s _ _ h.tds,h.fr,h.ne⟩
theorem RunH.left(h:RunH K C H0 H p lf bx td wd st){xs:List V}{l:List Stm}(r:Paired (fun x s=>∃f,StmV K H0 x s f) xs.reverse l):RunH K C H0 (upd H lf (.lst xs)) p lf bx td wd ⟨l,st.bx,st.told⟩:=by obtain ⟨dx,e⟩:=h.ob;obtain ⟨zs,ez,_⟩:=h.rows;exact ⟨h.same.updM h.fr.2.1,⟨dx,by rw [ao (bw e ez (by intro z;cases z))];exact e⟩,zn xs ac r,by rw [ao (bw h.bxs ez (by intro z;cases z))];exact h.bxs,by rw [ao h.ne.symm];exact h.tds,h.fr,h.ne⟩
theorem RunH.putB(h:RunH K C H0 H p lf bx td wd st){b:Bx}:RunH K C H0 (upd H bx (.dK b)) p lf bx td wd ⟨st.left,b,st.told⟩:=by obtain ⟨dx,e⟩:=h.ob;obtain ⟨zs,ez,r⟩:=h.rows;exact ⟨h.same.updM h.fr.2.2.1,⟨dx,by rw [ao (bw e h.bxs (by intro z;cases z))];exact e⟩,zn zs (by rw [ao (bw ez h.bxs (by intro z;cases z))];exact ez) r,ac,by rw [ao (bw h.tds h.bxs (by intro z;cases z))];exact h.tds,h.fr,h.ne⟩
theorem RunH.putT(h:RunH K C H0 H p lf bx td wd st){t:List Int}:RunH K C H0 (upd H td (.lst (t.map V.int))) p lf bx td wd ⟨st.left,st.bx,t⟩:=by obtain ⟨dx,e⟩:=h.ob;obtain ⟨zs,ez,r⟩:=h.rows;exact ⟨h.same.updM h.fr.2.2.2,⟨dx,by rw [ao (bw e h.tds (by intro z;cases z))];exact e⟩,zn zs (by rw [ao h.ne];exact ez) r,by rw [ao (bw h.bxs h.tds (by intro z;cases z))];exact h.bxs,ac,h.fr,h.ne⟩
end
def AU(K:W.Frag)(C:Addr)(p:Addr)(H:Hp)(Q:VK):Prop:=∃(H0:Hp)(lf:Addr)(bx:Addr)(td:Addr)(wd:Int)(st:Stt),RunH K C H0 H p lf bx td wd st/\∀H',Same H H'->Q (.bl (decide (st.left.length=0))) H'
def uq(K:W.Frag)(C:Addr):Sp:=fun vs H Q _=>∃(p:Addr),vs=[.ref p]/\AU K C p H Q
def x3(K:W.Frag)(C:Addr)(p:Addr)(r:Addr)(H:Hp)(Q:VK):Prop:=∃(H0:Hp)(lf:Addr)(bx:Addr)(td:Addr)(wd:Int)(st:Stt)(ys:List V)(ss:List Stm)(f:List Addr),RunH K C H0 H p lf bx td wd st/\H0 r=some (.lst ys)/\StmsV K H0 ys ss f/\st.left.length+ss.length<=10000000/\
 ∀H',RunH K C H0 H' p lf bx td wd ⟨ss++st.left,st.bx,st.told⟩->Q .non H'
def pU(K:W.Frag)(C:Addr):Sp:=fun vs H Q _=>∃(p:Addr)(r:Addr),vs=[.ref p,.ref r]/\x3 K C p r H Q
def AR(K:W.Frag)(C:Addr)(p:Addr)(q:Addr)(H:Hp)(Q:VK):Prop:=∃(H0:Hp)(lf:Addr)(bx:Addr)(td:Addr)(wd:Int)(st:Stt)(ns:List Str)(n:Str)(a:List Stm)(f:List Addr),RunH K C H0 H p lf bx td wd st/\StmV K H0 (.ref q) (.whl n a) f/\BxG ns wd st.bx/\n∈ns/\st.left.length+a.length<=9000000/\
 ∀H',RunH K C H0 H' p lf bx td wd ⟨if aH st.bx n≠0 then a++.whl n a::st.left else st.left,st.bx,st.told⟩->Q .non H'
def uk(K:W.Frag)(C:Addr):Sp:=fun vs H Q _=>∃(p:Addr)(q:Addr),vs=[.ref p,.ref q]/\AR K C p q H Q
def uW(K:W.Frag)(C:Addr)(p:Addr)(q:Addr)(H:Hp)(Q:VK):Prop:=∃(H0:Hp)(lf:Addr)(bx:Addr)(td:Addr)(wd:Int)(st:Stt)(ns:List Str)(d:Deed),RunH K C H0 H p lf bx td wd st/\SqT K H q d.vs/\d.fine/\Deed.good ns wd d/\BxG ns wd st.bx/\1<=wd/\wd<=8/\st.told.length<=1000000/\
 ∀H',RunH K C H0 H' p lf bx td wd ⟨st.left,doB wd d st.bx,doT wd d st.bx st.told⟩->Q .non H'
def mq(K:W.Frag)(C:Addr):Sp:=fun vs H Q _=>∃(p:Addr)(q:Addr),vs=[.ref p,.ref q]/\uW K C p q H Q
theorem d4{H0:Hp}{xs:List V}{l:List Stm}(r:Paired (fun x s=>∃f,StmV K H0 x s f) xs.reverse l):xs.length=l.length:=by have:=r.length;rw [jG] at this;exact this
theorem Bn(T:Txt K mg t):FnOk P w K mg base CX0 1 t.f_131 t.e_131 ["self"] (uq K t.C_Run):=by
 refine T.d_131.F.ok Gf ∅ ?_;rintro cdv A outer s H vs Q E hr ⟨p,rfl,H0,lf,bx,td,wd,st,hR,q⟩;refine ⟨_,
   (XSs.h
   (ak
    (aw (bP (rD (n:=0) (xC Jx hr)) (aM (yqv 0 vl) rfl) (aN ae) (aA _))))),?_⟩
 rw [show aP _ [V.ref p]=[some (.ref p)] from rfl];rwa [];obtain ⟨dx,e⟩:=hR.ob;obtain ⟨xs,ex,r⟩:=hR.rows;refine bZ e T.c_Run.cl T.n_Run_left rfl ?_;intro l hl;have lx:=d4 r;have s1:=Same.upd (o:=.lst []) hl;refine zn (decide (st.left.length=0)) ?_ (q _ s1)
 by_cases h:xs.length=0
 ·have z:=Rq.lists (K:=K) (H:=upd H l (.lst [])) (n:=0) (a:=lf) (b:=l) (xs:=xs) (ys:=[]) (fun _=>true) (SqL.of (s1 _ _ ex)) (SqL.of ac) h (fun j x y hx hy=>by simp at hy);rw [h] at z;rw [decide_eq_true Jy];exact z
 ·rw [decide_eq_false Jy];exact Rq.lens (SqL.of (s1 _ _ ex)) (SqL.of ac) h
theorem pE(T:Txt K mg t):FnOk P w K mg base CX0 1 t.f_135 t.e_135 ["self","rows"] (pU K t.C_Run):=by
 refine T.d_135.F.ok Gh ∅ ?_;rintro cdv A outer s H vs Q E hr ⟨p,r,rfl,H0,lf,bx,td,wd,st,ys,ss,f,hR,hr0,hS,hl,q⟩;refine ⟨_,
   (XSs.h
   (ak
    (aR (cg PySem.F.plainAttrs_list PySem.F.slot_list_extend PySem.F.type_list_extend vD (aM (yqv 0 vl) rfl) (aa (jt rfl T.z_list T.z_reversed (aa (yqv 1 vl) ae) gl gl) ae))))),?_⟩
 rw [show aP _ [V.ref p,V.ref r]=[some (.ref p),some (.ref r)] from rfl];rwa [];obtain ⟨dx,e⟩:=hR.ob;obtain ⟨xs,ex,rr⟩:=hR.rows;have lx:=d4 rr;have ly:=hS.length;refine bZ e T.c_Run.cl T.n_Run_left rfl ?_;refine ⟨.inl ⟨rfl,_,SqL.of ex⟩,zn ys (SqL.of (hR.same _ _ hr0)) fun l hl=>?_⟩;have s1:=Same.upd (o:=.lst ys.reverse) hl;refine zBA lf l xs ys.reverse rfl rfl (s1 _ _ ex) ac (by rw [jG,sizeLine_eq];omega) ?_;refine q _ ((hR.mv s1).left (st:=st) (xs:=xs++ys.reverse) (l:=ss++st.left) ?_);rw [wN,AF];refine Paired.app ?_ rr;have key:∀{zs:List V} {us:List Stm} {g:List Addr},StmsV K H0 zs us g->Paired (fun x s=>∃f,StmV K H0 x s f) zs us:=by
  intro zs us g h
  induction zs generalizing us g with
  |nil=>cases h;exact .nil
  |cons z zs ih=>cases h with | cons h1 h2=>exact .cons ⟨_,h1⟩ (ih h2)
 exact key hS
theorem dM{C p r:Addr}{H:Hp}:pU K C [.ref p,.ref r] H Q E=∃(H0:Hp)(lf bx td:Addr)(wd:Int)(st:Stt)(ys:List V)(ss:List Stm)(f:List Addr),RunH K C H0 H p lf bx td wd st/\H0 r=some (.lst ys)/\StmsV K H0 ys ss f/\st.left.length+ss.length<=10000000/\
  ∀H',RunH K C H0 H' p lf bx td wd ⟨ss++st.left,st.bx,st.told⟩->Q .non H':=propext ⟨by rintro ⟨_,_,e,q⟩;cases e;exact q,fun q=>zAD _ _ rfl q⟩
theorem Bl(T:Txt K mg t):FnOk P w K mg base CX0 2 t.f_133 t.e_133 ["self","row"] (uk K t.C_Run):=by
 have G_135:=@pE P w K mg base t T;refine T.d_133.F.ok Gg ∅ ?_;rintro cdv A outer s H vs Q E hr ⟨p,qw,rfl,H0,lf,bx,td,wd,st,ns,n,a,f,hR,hW,hG,hn,hl,q⟩;have hu:=dE hr;refine ⟨_,
   (XSs.h
   (ak
    (aG (ap me (cE hu (aM (yqv 0 vl) rfl) (aq az (yqv 1 vl) aj) (fun _ _=>rfl)) aj (aA _))
     (ai
      (aR (cg PySem.F.plainAttrs_list PySem.F.slot_list_append PySem.F.type_list_append bg (aM (yqv 0 vl) rfl) (aa (yqv 1 vl) ae)))
     (ak
      (aR (aT T.c_Run.cl T.d_135 G_135 hr.m (yqv 0 vl) (aa (aq az (yqv 1 vl) aj) ae)))))
     aD))),?_⟩
 rw [show aP _ [V.ref p,V.ref qw]=[some (.ref p),some (.ref qw)] from rfl];rwa [dM];obtain ⟨dx,e⟩:=hR.ob;obtain ⟨xs,ex,rr⟩:=hR.rows;have lx:=d4 rr
 cases hW with
 | @whl _ ar _ ys _ f hq har hys=>
 have hq1:=hR.same.seqT hq;refine bZ e T.c_Run.cl T.n_Run_boxes rfl ?_;refine zAA _ _ hq1 rfl (zAA bx _ rfl (.inl (zAA st.bx (.inr n) (.inl hR.bxs) rfl (hG.val hn).symm)) ?_);rwa [];refine fS (fun h0=>?_) (fun h0=>?_)
 ·rw [if_pos h0] at q;refine bZ e T.c_Run.cl T.n_Run_left rfl ⟨.inl ⟨rfl,_,SqL.of ex⟩,zAL lf xs _ rfl rfl ex (by rw [sizeLine_eq];omega) ?_⟩;have hR2:=hR.left (xs:=xs++[.ref qw]) (l:=.whl n a::st.left) (by rw [wN];exact .cons ⟨_,.whl hq har hys⟩ rr);obtain ⟨dx2,e2⟩:=hR2.ob;refine bq e2 rfl (zAA _ _ (hR2.same.seqT hq) rfl ?_);rwa [dM];exact zAV H0 lf bx td wd _ ys a f (zAI hR2 har hys (by show (_::st.left).length+_<=_;rw [cJ];omega) fun H' h=>q H' h)
 ·rw [if_neg (fun z=>z h0)] at q;exact q _ hR
theorem kx{C p qw:Addr}{H:Hp}:uk K C [.ref p,.ref qw] H Q E=∃(H0:Hp)(lf bx td:Addr)(wd:Int)(st:Stt)(ns:List Str)(n:Str)(a:List Stm)(f:List Addr),RunH K C H0 H p lf bx td wd st/\StmV K H0 (.ref qw) (.whl n a) f/\BxG ns wd st.bx/\n∈ns/\st.left.length+a.length<=9000000/\
  ∀H',RunH K C H0 H' p lf bx td wd ⟨if aH st.bx n≠0 then a++.whl n a::st.left else st.left,st.bx,st.told⟩->Q .non H':=propext ⟨by rintro ⟨_,_,e,q⟩;cases e;exact q,fun q=>zAD _ _ rfl q⟩
theorem vH(T:Txt K mg t):FnOk P w K mg base CX0 4 t.f_134 t.e_134 ["self","deed"] (mq K t.C_Run):=by
 have G_119:=@tK P w K mg base t T;have G_116:=@fz P w K mg base t T;refine T.d_134.F.ok sc_134 ∅ ?_;rintro cdv A outer s H vs Q E hr ⟨p,qd,rfl,H0,lf,bx,td,wd,st,ns,d,hR,hq,hf,hd,hG,w1,w8,hl,q⟩;have hu:=dE hr;refine ⟨_,
   (XSs.h
   (ai
    (au (i:=2) sc_134.nd rfl ll (ax T.d_119 G_119 hr.m (aa (yqv 1 vl) (aa (aM (yqv 0 vl) rfl) (aa (aM (yqv 0 vl) rfl) ae))) gl))
   (ai
    (au (i:=3) sc_134.nd rfl ll (ax T.d_116 G_116 hr.m (aa (yqv 1 vl) ae) gl))
   (ak
    (aG (ap rE (yqv 3 vl) d5 (aA _))
     (ak
      (aR (cg PySem.F.plainAttrs_list PySem.F.slot_list_append PySem.F.type_list_append bg (aM (yqv 0 vl) rfl) (aa (yqv 2 vl) ae))))
     (ak
      (dz hu (aM (yqv 0 vl) rfl) (yqv 3 vl) (yqv 2 vl) rfl))))))),?_⟩
 rw [show aP _ [V.ref p,V.ref qd]=[some (.ref p),some (.ref qd),none,none] from rfl];rwa [ky,cU];obtain ⟨dx,e⟩:=hR.ob;refine bZ e T.c_Run.cl T.n_Run_boxes rfl (bZ e T.c_Run.cl T.n_Run_width rfl ?_);rwa [ky,cU];refine zAH d st.bx ns (zBF hq hR.bxs hG hf hd w1 w8 fun H1 s1=>zAC d (s1.seqT hq) hf ?_);have hR1:=hR.mv s1;obtain ⟨dx1,e1⟩:=hR1.ob;have few:=hG.few
 cases d with
 |tell o=>
  refine aB (fun _=>bZ e1 T.c_Run.cl T.n_Run_told rfl ⟨.inl ⟨rfl,_,SqL.of hR1.tds⟩,zAL td _ _ rfl rfl hR1.tds (by rw [zq1,sizeLine_eq];omega) ?_⟩) (fun z=>absurd rfl z);have:=hR1.putT (t:=st.told++[cR st.bx wd (.tell o)]);rw [cy] at this;exact q _ this
 |copy n o=>
  refine aB (fun z=>absurd z (by intro z;cases z)) (fun _=>bZ e1 T.c_Run.cl T.n_Run_boxes rfl ?_);exact zAA bx _ rfl (DPut.k (k:=.inr n) hR1.bxs (by rw [sizeLine_eq];omega)) (q _ hR1.putB)
 |op g n o o2=>refine aB (fun z=>absurd z (by intro z;cases z)) (fun _=>bZ e1 T.c_Run.cl T.n_Run_boxes rfl ?_);exact zAA bx _ rfl (DPut.k (k:=.inr n) hR1.bxs (by rw [sizeLine_eq];omega)) (q _ hR1.putB)
theorem fW{C p qd:Addr}{H:Hp}:mq K C [.ref p,.ref qd] H Q E=∃(H0:Hp)(lf bx td:Addr)(wd:Int)(st:Stt)(ns:List Str)(d:Deed),RunH K C H0 H p lf bx td wd st/\SqT K H qd d.vs/\d.fine/\Deed.good ns wd d/\BxG ns wd st.bx/\1<=wd/\wd<=8/\st.told.length<=1000000/\
  ∀H',RunH K C H0 H' p lf bx td wd ⟨st.left,doB wd d st.bx,doT wd d st.bx st.told⟩->Q .non H':=propext ⟨by rintro ⟨_,_,e,q⟩;cases e;exact q,fun q=>zAD _ _ rfl q⟩
variable {E:XK} {H:Hp} {Q:VK} {c p pp:Addr}
def AV(K:W.Frag)(C:Addr)(p:Addr)(H:Hp)(Q:VK):Prop:=∃(H0:Hp)(lf:Addr)(bx:Addr)(td:Addr)(wd:Int)(st:Stt)(ns:List Str)(k:Nat),RunH K C H0 H p lf bx td wd st/\SG ns wd k st/\k<=5000/\¬st.left.length=0/\∀H',RunH K C H0 H' p lf bx td wd (fM wd st)->Q .non H'
def uy(K:W.Frag)(C:Addr):Sp:=fun vs H Q _=>∃(p:Addr),vs=[.ref p]/\AV K C p H Q
theorem Bs(T:Txt K mg t):FnOk P w K mg base CX0 5 t.f_132 t.e_132 ["self"] (uy K t.C_Run):=by
 have G_135:=@pE P w K mg base t T;have G_133:=@Bl P w K mg base t T;have G_134:=@vH P w K mg base t T;refine T.d_132.F.ok sc_132 ∅ ?_;rintro cdv A outer s H vs Q E hr ⟨p,rfl,H0,lf,bx,td,wd,st,ns,k,hR,hG,hk,hne,q⟩;have hu:=dE hr;refine ⟨_,
   (XSs.h
   (ai
    (au (i:=1) sc_132.nd rfl ll (jK PySem.F.plainAttrs_list PySem.F.slot_list_pop PySem.F.type_list_pop mZ (aM (yqv 0 vl) rfl)))
   (ak
    (aG (ap aZ (aq az (yqv 1 vl) aj) aF (aA _))
     (ak
      (aR (aT T.c_Run.cl T.d_135 G_135 hr.m (yqv 0 vl) (aa (cH (ap me (cE hu (aM (yqv 0 vl) rfl) (aq az (yqv 1 vl) aj) (fun _ _=>rfl)) aj (aA _)) (aq az (yqv 1 vl) aj) (aq az (yqv 1 vl) aj)) ae))))
     (ak
      (aG (ap aZ (aq az (yqv 1 vl) aj) aF (aA _))
       (ak
        (aR (aT T.c_Run.cl T.d_133 G_133 hr.m (yqv 0 vl) (aa (yqv 1 vl) ae))))
       (ak
        (aR (aT T.c_Run.cl T.d_134 G_134 hr.m (yqv 0 vl) (aa (yqv 1 vl) ae)))))))))),?_⟩
 rw [show aP _ [V.ref p]=[some (.ref p),none] from rfl];rwa [dM,kx,fW];obtain ⟨dx,e⟩:=hR.ob;obtain ⟨xs,ex,rr⟩:=hR.rows;have lx:=d4 rr;obtain ⟨left,bb,told⟩:=st;dsimp only at rr lx hne;have ll:=hG.len;have lt:=hG.told;dsimp only at ll lt
 cases left with
 |nil=>exact absurd rfl hne
 |cons s1 ss=>
 obtain ⟨xs',x,rfl⟩:∃xs' x,xs=xs'++[x]:=⟨xs.dropLast,xs.getLast (by intro z;rw [z] at lx;simp at lx),(sF _).symm⟩
 rw [wN] at rr;obtain ⟨hx,rr'⟩:(∃f,StmV K H0 x s1 f)/\Paired (fun x s=>∃f,StmV K H0 x s f) xs'.reverse ss:=by
  cases rr with
  |cons h t=>exact ⟨h,t⟩
 obtain ⟨f1,hx⟩:=hx;have hm:s1.many<=1000:=hG.many s1 Jz;have hgd:s1.good ns wd/\bK ns wd ss:=hG.gd;have hbx:BxG ns wd bb:=hG.bx;have hR2:=hR.left (xs:=xs') (l:=ss) rr';have hR2':RunH K t.C_Run H0 (upd H lf (.lst xs')) p lf bx td wd ⟨ss,bb,told⟩:=hR2;rw [cJ] at ll;refine bZ e T.c_Run.cl T.n_Run_left rfl ⟨.inl ⟨rfl,_,SqL.of ex⟩,zAL lf (xs'++[x]) x rfl rfl ex Jz ?_⟩;have edl:(xs'++[x]).dropLast=xs':=by simp
 rw [edl];obtain ⟨dx2,e2⟩:=hR2.ob;generalize upd H lf (.lst xs')=H2 at hR2 hR2' e2 ⊢;rwa [dM,kx,fW]
 cases hx with
 | @deed qd d hf hq=>
  rwa [dM,kx,fW];refine jk hf (hR2.same.seqT hq) Jv Jv Jv (zn _ rfl ?_);rw [if_neg zq3];refine jk hf (hR2.same.seqT hq) Jv Jv Jv (zn _ rfl ?_);rw [if_neg zq3];refine bq e2 rfl (zBJ H0 lf bx td wd _ ns d hR2' (hR2.same.seqT hq) hf hgd.1 hbx hG.wd.1 hG.wd.2 (by dsimp only;omega) fun H' h=>q H' h)
 | @ifs qd ar br n ys zs a b fa fb hq ha hb hya hyb=>
  rwa [dM,kx,fW];have hq2:=hR2.same.seqT hq;obtain ⟨hn,ga,gb⟩:n∈ns/\bK ns wd a/\bK ns wd b:=hgd.1;have la:=cC a;have lb:=cC b;simp only [Stm.many] at hm;refine zAE _ _ hq2 rfl rfl (zn true rfl ?_);rw [if_pos rfl];refine bq e2 rfl (bZ e2 T.c_Run.cl T.n_Run_boxes rfl (zAA _ _ hq2 rfl (zAA bx _ rfl (.inl (zAA bb (.inr n) (.inl hR2'.bxs) rfl (hbx.val hn).symm)) ?_)));have q2:∀H',RunH K t.C_Run H0 H' p lf bx td wd ⟨(if aH bb n≠0 then a else b)++ss,bb,told⟩->Q .non H':=q;rwa [];refine fS (fun h0=>zAA _ _ hq2 rfl ?_) (fun h0=>zAA _ _ hq2 rfl ?_)
  ·rwa [dM];rw [if_pos h0] at q2;exact zAV H0 lf bx td wd _ ys a fa (zAI hR2' ha hya (by dsimp only;omega) fun H' h=>q2 H' h)
  ·rwa [dM];rw [if_neg (fun z=>z h0)] at q2;exact zAV H0 lf bx td wd _ zs b fb (zAI hR2' hb hyb (by dsimp only;omega) fun H' h=>q2 H' h)
 | @whl qd ar n ys a f hq ha hy=>have hq2:=hR2.same.seqT hq;obtain ⟨hn,ga⟩:n∈ns/\bK ns wd a:=hgd.1;have la:=cC a;simp only [Stm.many] at hm;rwa [dM,kx,fW];refine zAE _ _ hq2 rfl rfl (zn false Jv ?_);rw [if_neg zq3];refine zAE _ _ hq2 rfl rfl (zn true rfl ?_);rw [if_pos rfl];exact bq e2 rfl (zBK H0 lf bx td wd _ ns n a _ (zAQ hR2' (.whl hq ha hy) hbx hn (by dsimp only;omega) fun H' h=>q H' h))
theorem z6{C:Addr}:uy K C [.ref p] H Q E=∃(H0:Hp)(lf bx td:Addr)(wd:Int)(st:Stt)(ns:List Str)(k:Nat),RunH K C H0 H p lf bx td wd st/\SG ns wd k st/\k<=5000/\¬st.left.length=0/\∀H',RunH K C H0 H' p lf bx td wd (fM wd st)->Q .non H':=propext ⟨by rintro ⟨_,e,q⟩;cases e;exact q,fun q=>zn _ rfl q⟩
theorem yR{C:Addr}:uq K C [.ref p] H Q E=∃(H0:Hp)(lf bx td:Addr)(wd:Int)(st:Stt),RunH K C H0 H p lf bx td wd st/\∀H',Same H H'->Q (.bl (decide (st.left.length=0))) H':=propext ⟨by rintro ⟨_,e,q⟩;cases e;exact q,fun q=>zn _ rfl q⟩
def xc(K:W.Frag)(C CP:Addr)(p:Addr)(pp:Addr)(c:Addr)(H:Hp)(Q:VK):Prop:=∃(H0:Hp)(dx:Addr)(wd:Int)(ins:List Str)(oth:List Str)(ss:List Stm)(a:Addr)(b:Addr)(r:Addr)(xs:List V)(f:List Addr)(ws:Bx),Same H0 H/\H0 p=none/\H p=some (.ins C dx [])/\
 ProgAt K CP H0 pp wd ins oth ss a b r xs f/\WordsIn H0 c ws ins wd/\(ins++oth).length<=1000/\ss.length<=1000/\
 ∀lf bx td H',RunH K C H0 H' p lf bx td wd ⟨ss,aV ins ws (ins++oth),[]⟩->Q .non H'
def qf(K:W.Frag)(C CP:Addr):Sp:=fun vs H Q _=>∃(p:Addr)(pp:Addr)(c:Addr),vs=[.ref p,.ref pp,.ref c]/\xc K C CP p pp c H Q
theorem yd(T:Txt K mg t):FnOk P w K mg base CX0 2 t.f_130 t.e_130 ["self","program","words"] (qf K t.C_Run t.C_Program):=by
 have G_129:=@pF P w K mg base t T;refine T.d_130.F.ok Ge ∅ ?_;rintro cdv A outer s H vs Q E hr ⟨p,pp,c,rfl,H0,dx,wd,ins,oth,ss,a,b,r,xs,f,ws,s0,hp0,hp,hP,hW,hl,hs,q⟩;refine ⟨_,
   (XSs.h
   (ai
    (bI (yqv 0 vl) (aM (yqv 1 vl) rfl) rfl)
   (ai
    (bI (yqv 0 vl) (jt rfl T.z_list T.z_reversed (aa (aM (yqv 1 vl) rfl) ae) gl gl) rfl)
   (ai
    (bI (yqv 0 vl) (ax T.d_129 G_129 hr.m (aa (yqv 1 vl) (aa (yqv 2 vl) ae)) gl) rfl)
   (ak
    (bI (yqv 0 vl) (aN ae) rfl)))))),?_⟩
 rw [show aP _ [V.ref p,V.ref pp,V.ref c]=[some (.ref p),some (.ref pp),some (.ref c)] from rfl];rwa [iK];obtain ⟨dxp,hob⟩:=hP.ob;refine bZ (s0 _ _ hob) T.c_Program.cl T.n_Program_width rfl (fk hp T.c_Run.cl T.n_Run_width Jz ?_);rw [bN JA,qM];have s1:=s0.updM (o:=.ins t.C_Run dx [("width",V.int wd)]) hp0;have e1:upd H p (.ins t.C_Run dx [("width",V.int wd)]) p=some (.ins t.C_Run dx [("width",V.int wd)]):=ac;generalize upd H p (.ins t.C_Run dx [("width",V.int wd)])=H1 at s1 e1 ⊢;rwa [iK];refine bZ (s1 _ _ hob) T.c_Program.cl T.n_Program_rows rfl (zAA r xs rfl (SqL.of (s1 _ _ hP.rs)) fun lf hlf=>?_);have f2:=s1.free hlf;have s2:=s1.updN (o:=.lst xs.reverse) hlf;have nlf:p≠lf:=am e1 hlf;have g2:upd H1 lf (.lst xs.reverse) lf=some (.lst xs.reverse):=ac;have e2:upd H1 lf (.lst xs.reverse) p=some (.ins t.C_Run dx [("width",V.int wd)]):=by rw [ao nlf];exact e1
 generalize upd H1 lf (.lst xs.reverse)=H2 at s2 g2 e2 ⊢;refine fk e2 T.c_Run.cl T.n_Run_left Jz ?_;rw [bN Jw];have s3:=s2.updM (o:=.ins t.C_Run dx ([(("width":Str),V.int wd)]++[(("left":Str),V.ref lf)])) hp0;have e3:upd H2 p (.ins t.C_Run dx ([(("width":Str),V.int wd)]++[(("left":Str),V.ref lf)])) p=some (.ins t.C_Run dx ([(("width":Str),V.int wd)]++[(("left":Str),V.ref lf)])):=ac;have g3:upd H2 p (.ins t.C_Run dx ([(("width":Str),V.int wd)]++[(("left":Str),V.ref lf)])) lf=some (.lst xs.reverse):=by rw [ao nlf.symm];exact g2
 generalize upd H2 p (.ins t.C_Run dx ([(("width":Str),V.int wd)]++[(("left":Str),V.ref lf)]))=H3 at s3 e3 g3 ⊢;rwa [iK];refine zBK wd ins oth ss a b r xs f ws (zAG (hP.same s3) (hW.same s3) hl fun bx H4 s4 hbx gb=>?_);refine fk (s4 _ _ e3) T.c_Run.cl T.n_Run_boxes Jz ?_;rw [bN Jw];have nbx:bx≠p:=(am e3 hbx).symm;have fb:=s3.free hbx;have s5:=(s3.trans s4).updM (o:=.ins t.C_Run dx ([(("width":Str),V.int wd)]++[(("left":Str),V.ref lf)]++[(("boxes":Str),V.ref bx)])) hp0;have e5:upd H4 p (.ins t.C_Run dx ([(("width":Str),V.int wd)]++[(("left":Str),V.ref lf)]++[(("boxes":Str),V.ref bx)])) p=some (.ins t.C_Run dx ([(("width":Str),V.int wd)]++[(("left":Str),V.ref lf)]++[(("boxes":Str),V.ref bx)])):=ac;have g5:upd H4 p (.ins t.C_Run dx ([(("width":Str),V.int wd)]++[(("left":Str),V.ref lf)]++[(("boxes":Str),V.ref bx)])) lf=some (.lst xs.reverse):=by rw [ao nlf.symm];exact s4 _ _ g3
 have b5:upd H4 p (.ins t.C_Run dx ([(("width":Str),V.int wd)]++[(("left":Str),V.ref lf)]++[(("boxes":Str),V.ref bx)])) bx=some (.dK (aV ins ws (ins++oth))):=by rw [ao nbx];exact gb
 generalize upd H4 p (.ins t.C_Run dx ([(("width":Str),V.int wd)]++[(("left":Str),V.ref lf)]++[(("boxes":Str),V.ref bx)]))=H5 at s5 e5 g5 b5 ⊢;rwa [];intro td htd;have ntd:p≠td:=am e5 htd;have ft:=s5.free htd;have s6:=Same.upd (o:=.lst []) htd;refine fk (s6 _ _ e5) T.c_Run.cl T.n_Run_told Jz ?_;rw [bN Jw];refine q lf bx td _ ⟨(s5.trans s6).updM hp0,⟨dx,ac⟩,zn xs.reverse ?_ ?_,?_,?_,zAG hp0 f2 fb ft,am g5 htd⟩
 ·rw [ao nlf.symm];exact s6 _ _ g5
 ·rw [AF];have key:∀{zs:List V} {us:List Stm} {g:List Addr},StmsV K H0 zs us g->Paired (fun x s=>∃f,StmV K H0 x s f) zs us:=by
   intro zs us g h
   induction zs generalizing us g with
   |nil=>cases h;exact .nil
   |cons z zs ih=>cases h with | cons h1 h2=>exact .cons ⟨_,h1⟩ (ih h2)
  exact key hP.st
 ·rw [ao nbx];exact s6 _ _ b5
 ·rw [ao ntd.symm];exact ac
theorem u9{C CP:Addr}:qf K C CP [.ref p,.ref pp,.ref c] H Q E=∃(H0:Hp)(dx:Addr)(wd:Int)(ins oth:List Str)(ss:List Stm)(a b r:Addr)(xs:List V)(f:List Addr)(ws:Bx),Same H0 H/\H0 p=none/\H p=some (.ins C dx [])/\
  ProgAt K CP H0 pp wd ins oth ss a b r xs f/\WordsIn H0 c ws ins wd/\(ins++oth).length<=1000/\ss.length<=1000/\
  ∀lf bx td H',RunH K C H0 H' p lf bx td wd ⟨ss,aV ins ws (ins++oth),[]⟩->Q .non H':=propext ⟨by rintro ⟨_,_,_,e,q⟩;cases e;exact q,fun q=>zAK _ _ _ rfl q⟩
def ProgIn(K:W.Frag)(C:Addr)(H:Hp)(pp c:Addr)(wd:Int)(ins oth:List Str)(ss:List Stm)(ws:Bx):Prop:=(∃a b r xs f,ProgAt K C H pp wd ins oth ss a b r xs f)/\WordsIn H c ws ins wd/\1<=wd/\wd<=8/\(ins++oth).length<=1000/\bK (ins++oth) wd ss/\aY ss<=1000
def zu(K:W.Frag)(C:Addr):Sp:=fun vs H Q _=>∃(pp c:Addr)(m wd:Int)(ins oth:List Str)(ss:List Stm)(ws:Bx),vs=[.ref pp,.ref c,.int m]/\ProgIn K C H pp c wd ins oth ss ws/\m<=2100/\
 ∀p td bx H',Same H H'->H td=none->H bx=none->H' p=some (.tup [.ref td,.ref bx,.bl (decide ((bL wd m.toNat ⟨ss,aV ins ws (ins++oth),[]⟩).left.length=0))])->H' td=some (.lst ((bL wd m.toNat ⟨ss,aV ins ws (ins++oth),[]⟩).told.map V.int))->H' bx=some (.dK (bL wd m.toNat ⟨ss,aV ins ws (ins++oth),[]⟩).bx)->Q (.ref p) H'
theorem ProgIn.sg{C:Addr}{wd:Int}{ins oth:List Str}{ss:List Stm}{ws:Bx}(h:ProgIn K C H pp c wd ins oth ss ws):SG (ins++oth) wd 0 ⟨ss,aV ins ws (ins++oth),[]⟩:=
 ⟨⟨h.2.2.1,h.2.2.2.1⟩,fQ h.2.1.get h.2.2.2.2.1,h.2.2.2.2.2.1,fun x hx=>cL (iC hx) h.2.2.2.2.2.2,by have:=cC ss;have:=h.2.2.2.2.2.2;dsimp only;omega,zq0 _,fun x hx=>by cases hx⟩
theorem ED(T:Txt K mg t):FnOk P w K mg base CX0 6 t.f_136 t.e_136 ["program","words","most"] (zu K t.C_Program):=by
 have G_130:=@yd P w K mg base t T;have G_131:=@Bn P w K mg base t T;have G_132:=@Bs P w K mg base t T;refine T.d_136.F.ok sc_136 ∅ ?_;rintro cdv A outer s H vs Q E hr ⟨pp,c,m,wd,ins,oth,ss,ws,rfl,hI,hm,q⟩;refine ⟨_,
   (XSs.h
   (ai
    (au (i:=3) sc_136.nd rfl ll (gK T.c_Run T.d_130 G_130 hr.m (aa (yqv 0 vl) (aa (yqv 1 vl) ae)) gl))
   (ai
    (au (i:=4) sc_136.nd rfl ll aj)
   (ai
    (eZ PassesOwn.never (cw (cI (ap g9 (yqv 4 vl) (yqv 2 vl) (aA _)) (cr (dQ (cj (dg T.c_Run.cl T.d_131 G_131 hr.m (yqv 3 vl)))))))
     (ai
      (aR (dg T.c_Run.cl T.d_132 G_132 hr.m (yqv 3 vl)))
     (ak
      (au (i:=4) sc_136.nd rfl ll (av bo (yqv 4 vl) aj)))))
   (ak
    (aw (aI (aa (aM (yqv 3 vl) rfl) (aa (aM (yqv 3 vl) rfl) (aa (dg T.c_Run.cl T.d_131 G_131 hr.m (yqv 3 vl)) ae)))))))))),?_⟩
 rw [show aP _ [V.ref pp,V.ref c,V.int m]=[some (.ref pp),some (.ref c),some (.int m),none,none] from rfl];rwa [u9,yR,z6];intro p dx hp hdx hne;obtain ⟨⟨a,b,r,xs,f,hP⟩,hW,w1,w8,hl,hg,hmany⟩:=id hI;have sg:=hI.sg;have s1:Same H (upd (upd H dx (.own p)) p (.ins t.C_Run dx [])):=(Same.upd hdx).updM hp;simp only [u9];refine ⟨H,dx,wd,ins,oth,ss,a,b,r,xs,f,ws,s1,hp,ac,hP,hW,hl,by have:=cC ss;omega,fun lf bx td H1 hR=>⟨trivial,?_⟩⟩;generalize (⟨ss,aV ins ws (ins++oth),[]⟩:Stt)=st0 at sg hR q;refine gH (fun σ H'=>∃i:Nat,(i:Int)<=max m 0/\RunH K t.C_Run H H' p lf bx td wd (bL wd i st0)/\σ=[some (.ref pp),some (.ref c),some (.int m),some (.ref p),some (.int i)])
  (fun (σ:L2.St) H'=>match (σ[4]?).join with | some (V.int i)=>(m-i).toNat | _=>0) (zAC 0 Jy hR rfl) ?_
 rintro σ H2 ⟨i,hi,hR2,rfl⟩;have sgi:=sg.run i;rwa [yR,z6];have fin:∀H3,RunH K t.C_Run H H3 p lf bx td wd (bL wd i st0)->bL wd m.toNat st0=bL wd i st0->i5 K (V.ref p) "told" H3 fun x H1=>i5 K (V.ref p) "boxes" H1 fun x_1 H1=>jM t.C_Run "is_over" (V.ref p) H1 (∃H0 lf bx td wd st,RunH K t.C_Run H0 H1 p lf bx td wd st/\∀H',Same H1 H'->∀(p:Addr),H' p=none->Q (V.ref p) (upd H' p (HO.tup [x,x_1,V.bl (decide (st.left.length=0))]))):=by intro H3 hR3 he;obtain ⟨dx3,e3⟩:=hR3.ob;refine bZ e3 T.c_Run.cl T.n_Run_told rfl (bZ e3 T.c_Run.cl T.n_Run_boxes rfl (bq e3 rfl (zBB H lf bx td wd _ ⟨hR3,fun H4 s4 u hu=>?_⟩)));have hR4:=hR3.mv s4;have s5:=Same.upd (o:=.tup [V.ref td,V.ref bx,V.bl (decide ((bL wd i st0).left.length=0))]) hu;rw [he] at q;exact q u td bx _ (hR4.same.trans s5) hR4.fr.2.2.2 hR4.fr.2.2.1 ac (s5 _ _ hR4.tds) (s5 _ _ hR4.bxs)
 refine aB (fun h1=>?_) (fun h1=>?_)
 ·obtain ⟨dx2,e2⟩:=hR2.ob;refine bq e2 rfl (zBB H lf bx td wd _ ⟨hR2,fun H3 s3=>?_⟩);have hR3:=hR2.mv s3;refine fS (fun h2=>?_) (fun h2=>?_)
  ·obtain ⟨dx3,e3⟩:=hR3.ob;refine ⟨fun σ' H'=>∃j:Nat,j=i+1/\RunH K t.C_Run H H' p lf bx td wd (bL wd j st0)/\σ'=[some (V.ref pp),some (V.ref c),some (V.int m),some (V.ref p),some (V.int j)],?_,?_⟩
   ·rintro σ' H' ⟨j,rfl,hRj,rfl⟩;refine zAC _ ?_ rfl (zAC (i+1) Jy hRj rfl);show (m-((i+1:Nat):Int)).toNat<(m-(i:Int)).toNat;omega
   ·refine bq e3 rfl (zAY H lf bx td wd _ _ i (zAI hR3 sgi Jy h2 fun H4 hR4=>zAC (i+1) rfl hR4 ?_));rfl
  ·refine fin _ hR3 ?_;have hz:(bL wd i st0).left=[]:=zq42.mp h2;exact kB hz Jy
 ·refine fin _ hR2 ?_;have:m.toNat=i:=by omega
  rw [this]
theorem Ie{C:Addr}{m:Int}:zu K C [.ref pp,.ref c,.int m] H Q E=∃(wd:Int)(ins oth:List Str)(ss:List Stm)(ws:Bx),ProgIn K C H pp c wd ins oth ss ws/\m<=2100/\
  ∀p td bx H',Same H H'->H td=none->H bx=none->H' p=some (.tup [.ref td,.ref bx,.bl (decide ((bL wd m.toNat ⟨ss,aV ins ws (ins++oth),[]⟩).left.length=0))])->H' td=some (.lst ((bL wd m.toNat ⟨ss,aV ins ws (ins++oth),[]⟩).told.map V.int))->H' bx=some (.dK (bL wd m.toNat ⟨ss,aV ins ws (ins++oth),[]⟩).bx)->Q (.ref p) H':=
 propext ⟨by rintro ⟨_,_,_,wd,ins,oth,ss,ws,e,q⟩;cases e;exact zAS wd ins oth ss ws q,by rintro ⟨wd,ins,oth,ss,ws,q⟩;exact zAY pp c m wd ins oth ss ws ⟨rfl,q⟩⟩
def aQ(ds:List FB.Deed)(j k:Nat):Option Int:=match ds[j]?,ds[k]? with
 |some d,some e=>FB.jv d e
 |_,_=>none
def zp(K:W.Frag):Sp:=fun vs H Q _=>∃(a:Addr)(xs:List V)(ds:List FB.Deed)(j k:Nat)(d e:FB.Deed),vs=[.ref a,.int j,.int k]/\SqL K H a xs/\DeedsV K H xs ds/\j<k/\ds[j]?=some d/\ds[k]?=some e/\∀H',Same H H'->Q (FB.nq (FB.jv d e)) H'
def uv(K:W.Frag):Sp:=fun vs H Q _=>∃(a:Addr)(d:FB.Deed),vs=[.ref a]/\SqT K H a d.vs/\d.fine/\∀p H',Same H H'->H p=none->H' p=some (.lst (d.reads.map V.str))->Q (.ref p) H'
theorem rH{d:FB.Deed}:List.map id (List.filter k9 ((gN d).map FB.Opd.v))=d.reads.map V.str:=by
 cases d with
 |tell o=>exact tj
 |copy n o=>exact tj
 |op f n o o2=>exact xq
theorem Bp(T:Txt K mg t):FnOk P w K mg base CX0 2 t.f_115 t.e_115 ["deed"] (uv K):=by
 have G_114:=@tL P w K mg base t T;refine T.d_115.F.ok G6 ∅ ?_;rintro cdv A outer s H vs Q E hr ⟨a,d,rfl,hS,hf,q⟩;refine ⟨_,
   (XSs.h
   (ak
    (aw (bS (tns:=["part"]) (cns:=[]) (ci:=[]) rfl (CompSc.of Jw) (uF (ax T.d_114 G_114 hr.m (aa (yqv 0 vl) ae) gl)) (fun _=>(aC (i:=1) (show List.Nodup [(".0":Str),("part":Str)] by decide +kernel) rfl ll (Or.inr Jw))) (fun _=>(nL (cj (aK eS gl T.z_isinstance boot_isinstance (aa (yqv 1 vl) (aa (f7 (v:=.ty "str") gl T.z_str boot_str rfl) ae)))))) (fun _=>(yqv 1 vl)))))),?_⟩
 rw [show aP _ [V.ref a]=[some (.ref a)] from rfl];rwa [yQ];refine zAC d hS hf fun p hp=>⟨⟨_,SqT.of ac⟩,fun acc hacc bk=>?_⟩;refine oC k9 id (by rw [sizeLine_eq,zq1];have:=pI (d:=d);omega) (SqT.of ac) hacc (fun x hm H3 Q' s3 h=>?_) (fun x hm H3 Q' s3 _ h=>?_) ?_
 ·obtain ⟨o,_,rfl⟩:=zq23.mp hm;rwa [];exact mW (zn _ rfl h)
 ·rwa [];exact h
 ·rw [rH];exact q acc _ ((Same.upd hp).trans (Same.upd hacc)) ((Same.upd hp).free hacc) ac
theorem yT{a:Addr}{H:Hp}{Q:VK}{E:XK}:uv K [.ref a] H Q E=∃d:FB.Deed,SqT K H a d.vs/\d.fine/\∀p H',Same H H'->H p=none->H' p=some (.lst (d.reads.map V.str))->Q (.ref p) H':=propext ⟨by rintro ⟨_,d,e,q⟩;cases e;exact ⟨d,q⟩,by rintro ⟨d,q⟩;exact zAD a d rfl q⟩
theorem xE{d:FB.Deed}{ns:List Str}:inV (wrV d) (ns.map V.str)=decide (∃n∈d.writes,n∈ns):=by
 have hn:∀ns:List Str,inV .non (ns.map V.str)=false:=fun ns=>by
  induction ns with
  |nil=>rfl
  |cons m ns ih=>unfold inV at ih ⊢;rw [d9,qF,ih];rfl
 cases d with
 |tell o=>show inV .non _=_;rw [hn];simp [FB.Deed.writes]
 |copy n o=>show inV (.str n) _=_;rw [dI];simp [FB.Deed.writes]
 |op f n o o2=>show inV (.str n) _=_;rw [dI];simp [FB.Deed.writes]
theorem Ez(T:Txt K mg t):FnOk P w K mg base CX0 10 t.f_122 t.e_122 ["deeds","j","k"] (zp K):=by
 have G_115:=@Bp P w K mg base t T;have G_116:=@fz P w K mg base t T;refine T.d_122.F.ok sc_122 ∅ ?_;rintro cdv A outer s H vs Q E hr ⟨a,xs,ds,j,k,d,e,rfl,hS,hds,hjk,hd,he,q⟩;refine ⟨_,
   (XSs.h
   (ai
    (au (i:=3) sc_122.nd rfl ll (aq b7 (yqv 0 vl) (yqv 1 vl)))
   (ai
    (au (i:=4) sc_122.nd rfl ll (aq b7 (yqv 0 vl) (yqv 2 vl)))
   (ai
    (aG (cw (cI (ap aZ (aq az (yqv 3 vl) aj) aF (aA _)) (cr (ap aZ (aq az (yqv 4 vl) aj) aF (aA _)))))
     (ak
      (aw aj))
     aD)
   (ai
    (au (i:=5) sc_122.nd rfl ll (ax T.d_116 G_116 hr.m (aa (yqv 3 vl) ae) gl))
   (ai
    (aG (cw (cI (ap iF (yqv 5 vl) d5 (aA _)) (cr (cw (ii (ap cu (yqv 5 vl) (ax T.d_115 G_115 hr.m (aa (yqv 4 vl) ae) gl) rfl) (gJ (ap aZ (yqv 5 vl) (ax T.d_116 G_116 hr.m (aa (yqv 4 vl) ae) gl) (aA _))))))))
     (ak
      (aw aj))
     aD)
   (ak
    (aw (cH (ap cu (ax T.d_116 G_116 hr.m (aa (yqv 4 vl) ae) gl) (ax T.d_115 G_115 hr.m (aa (yqv 3 vl) ae) gl) rfl) aj d5))))))))),?_⟩
 rw [show aP _ [V.ref a,V.int j,V.int k]=[some (.ref a),some (.int j),some (.int k),none,none,none] from rfl];rwa [yT,cU];obtain ⟨x,hx,fd,qx,rfl,hqx⟩:=Paired.getR hds hd;obtain ⟨y,hy,fe,qy,rfl,hqy⟩:=Paired.getR hds he;refine zAA _ _ hS (cf hx) (zAA _ _ hS (cf hy) ?_);rwa [yT,cU];have fl:∀d:FB.Deed,bF (wrV d)=true:=fun d=>by cases d<;>rfl
 have nw:∀d:FB.Deed,(!decide (wrV d=V.non))=!d.tells:=fun d=>by cases d<;>rfl
 have last:∀H1,Same H H1->¬(d.tells=true/\e.tells=true)->¬(∃n∈d.writes,n∈e.reads\/n∈e.writes)->∃d0:FB.Deed,SqT K H1 qy d0.vs/\d0.fine/\∃d1:FB.Deed,SqT K H1 qx d1.vs/\d1.fine/\
   ∀p H2,Same H1 H2->H1 p=none->H2 p=some (.lst (d1.reads.map V.str))->∃xs,(SqL K H2 p xs\/SqT K H2 p xs)/\bF (wrV d0)=true/\xs.all bF=true/\if inV (wrV d0) xs=true then Q (.int 0) H2 else Q .non H2:=by
  intro H1 s1 h1 h2;refine zAC e (s1.seqT hqy) fe (zAC d (s1.seqT hqx) fd fun p H2 s2 hp hl=>zAF _ (.inl (SqL.of hl)) (fl e) gr ?_);rw [xE];unfold FB.jv at q;rw [if_neg h1,if_neg h2] at q;refine aB (fun h=>?_) (fun h=>?_)
  ·rw [if_pos h] at q;exact q _ (s1.trans s2)
  ·rw [if_neg h] at q;exact q _ (s1.trans s2)
 have wrm:∀(d e:FB.Deed),d.tells=false->(wrV d=wrV e↔∃n∈d.writes,n∈e.writes):=fun d e h=>by cases d<;>cases e<;>simp [wrV,FB.Deed.writes,FB.Deed.tells] at h ⊢
 refine ix0 fd hqx (zn _ rfl (kc (fun e1=>ix0 fe hqy (zn _ rfl (kc (fun e2=>?_) (fun e2=>?_)))) (fun e1=>?_)))
 ·unfold FB.jv at q;rw [if_pos ⟨e1,e2⟩] at q;exact q H (Same.refl H)
 ·have nt:¬(d.tells=true/\e.tells=true):=fun z=>by rw [e2] at z;exact zq3 z.2
  refine zAC d hqx fd ?_;rw [nw,e1];refine last H (Same.refl H) nt ?_;rw [Iw e1];simp
 ·have nt:¬(d.tells=true/\e.tells=true):=fun z=>by rw [e1] at z;exact zq3 z.1
  refine zAC d hqx fd ?_;rw [nw,e1];refine zAC e hqy fe fun p H2 s2 hp hl=>zAF _ (.inl (SqL.of hl)) (fl d) gr ?_;rw [xE];refine aB (fun h=>?_) (fun h=>zAC e (s2.seqT hqy) fe ?_)
  ·unfold FB.jv at q;obtain ⟨n,h1,h2⟩:=h;rw [if_neg nt,if_pos ⟨n,h1,.inl h2⟩] at q;exact q _ s2
  refine ⟨by cases d<;>cases e<;>rfl,zn _ rfl (aB (fun h2=>?_) (fun h2=>?_))⟩
  ·unfold FB.jv at q;obtain ⟨n,h3,h4⟩:=(wrm d e e1).mp h2;rw [if_neg nt,if_pos ⟨n,h3,.inr h4⟩] at q;exact q _ s2
  ·refine last H2 s2 nt ?_;rintro ⟨n,h3,h4 | h4⟩
   ·exact h (zn n h3 h4)
   ·exact h2 ((wrm d e e1).mpr (zn n h3 h4))
def cK:FB.Deed->Nat
 | .op f _ _ _=>if f∈(["plus","less"]:List Str) then 0 else if f∈(["below","same"]:List Str) then 1 else if f∈(["and","or","xor"]:List Str) then 2 else 3
 |_=>3
def ux(K:W.Frag):Sp:=fun vs H Q _=>∃(a:Addr)(d:FB.Deed),vs=[.ref a]/\SqT K H a d.vs/\∀H',Same H H'->Q (.int (cK d)) H'
theorem Br(T:Txt K mg t):FnOk P w K mg base CX0 1 t.f_154 t.e_154 ["_law_deed_here"] (ux K):=by
 refine T.d_154.F.ok Gq ∅ ?_;rintro cdv A outer s H vs Q E hr ⟨a,d,rfl,hS,q⟩;refine ⟨_,
   (XSs.h
   (ai
    (aG (ap cu (aq az (yqv 0 vl) aj) (aI (cV JA)) rfl)
     (ak
      (aw aj))
     aD)
   (ai
    (aG (ap cu (aq az (yqv 0 vl) aj) (aI (cV JA)) rfl)
     (ak
      (aw aj))
     aD)
   (ai
    (aG (ap cu (aq az (yqv 0 vl) aj) (aI (cV JA)) rfl)
     (ak
      (aw aj))
     aD)
   (ak
    (aw aj)))))),?_⟩
 rw [show aP _ [V.ref a]=[some (.ref a)] from rfl];obtain ⟨f,hf,he⟩:∃f:Str,atI d.vs 0=some (.str f)/\cK d=if f∈(["plus","less"]:List Str) then 0 else if f∈(["below","same"]:List Str) then 1 else if f∈(["and","or","xor"]:List Str) then 2 else 3:=by
  cases d with
  |tell o=>exact zn ("tell") rfl (by rw [if_neg Jv,if_neg Jv,if_neg Jv];rfl)
  |copy n o=>exact zn ("copy") rfl (by rw [if_neg Jv,if_neg Jv,if_neg Jv];rfl)
  |op f n o o2=>exact zn f rfl rfl
 rw [he] at q;rwa [];refine zAA _ _ hS hf fun p hp=>zAF _ (.inr (SqT.of ac)) rfl rfl ?_;rw [show inV (.str f) [V.str "plus",V.str "less"]=decide (f∈(["plus","less"]:List Str)) from dI (ns:=["plus","less"])];refine aB (fun h=>by rw [if_pos h] at q;exact q _ (Same.upd hp)) (fun h=>?_);rw [if_neg h] at q;refine zAA _ _ ((Same.upd hp).seqT hS) hf fun p2 hp2=>zAF _ (.inr (SqT.of ac)) rfl rfl ?_;rw [show inV (.str f) [V.str "below",V.str "same"]=decide (f∈(["below","same"]:List Str)) from dI (ns:=["below","same"])];have s2:=(Same.upd hp).trans (Same.upd (o:=.tup [V.str "below",V.str "same"]) hp2);refine aB (fun h=>by rw [if_pos h] at q;exact q _ s2) (fun h=>?_);rw [if_neg h] at q;refine zAA _ _ (s2.seqT hS) hf fun p3 hp3=>zAF _ (.inr (SqT.of ac)) rfl rfl ?_;rw [show inV (.str f) [V.str "and",V.str "or",V.str "xor"]=decide (f∈(["and","or","xor"]:List Str)) from dI (ns:=["and","or","xor"])];have s3:=s2.trans (Same.upd (o:=.tup [V.str "and",V.str "or",V.str "xor"]) hp3);exact aB (fun h=>by rw [if_pos h] at q;exact q _ s3) (fun h=>by rw [if_neg h] at q;exact q _ s3)
theorem yY{a:Addr}{H:Hp}{Q:VK}{E:XK}:ux K [.ref a] H Q E=∃d:FB.Deed,SqT K H a d.vs/\∀H',Same H H'->Q (.int (cK d)) H':=propext ⟨by rintro ⟨_,d,e,q⟩;cases e;exact ⟨d,q⟩,by rintro ⟨d,q⟩;exact zAD a d rfl q⟩
def sV(d:FB.Deed):V:=if cK d<3 then .int (cK d) else .non
def GS(ds:List FB.Deed)(p:Int):FB.Deed:=ds.getD p.toNat (.tell (.word 0))
theorem zo{d:FB.Deed}(h:d.fine):∃f:Str,atI d.vs 0=some (.str f)/\(bE kvs_SORTS (.inr f)).getD .non=sV d:=by
 cases d with
 |tell o=>exact zn ("tell") rfl Jw
 |copy n o=>exact zn ("copy") rfl Jw
 |op f n o o2=>refine zn f rfl ?_;have h:f∈FB.opsL:=h;simp only [FB.opsL,List.mem_cons,List.not_mem_nil,or_false] at h;rcases h with rfl | rfl | rfl | rfl | rfl | rfl | rfl<;>kernel_rfl
theorem GU{d:FB.Deed}{s:Nat}(h:s<3):eqV (sV d) (.int s)=decide (cK d=s):=by
 unfold sV
 split
 ·rw [FL.sZ,qE,decide_eq_true_iff,decide_eq_true_iff];omega
 ·rw [decide_eq_false Jy];rfl
def mx(K:W.Frag):Sp:=fun vs H Q _=>∃(a:Addr)(d:FB.Deed),vs=[.ref a]/\SqT K H a d.vs/\d.fine/\Q (sV d) H
theorem vL(T:Txt K mg t)(hw:t.pr=w.params):FnOk P w K mg base CX0 1 t.f_117 t.e_117 ["deed"] (mx K):=by
 refine T.d_117.F.ok G8 ∅ ?_;rintro cdv A outer s H vs Q E hr ⟨a,d,rfl,hS,hf,q⟩;refine ⟨_,
   (XSs.h
   (ak
    (aw (wG hw T.k_SORTS T.g_SORTS gl (aq az (yqv 0 vl) aj) ⟨rfl,rfl,rfl,rfl⟩)))),?_⟩
 rw [show aP _ [V.ref a]=[some (.ref a)] from rfl];rwa [];obtain ⟨f,hf0,hv⟩:=zo hf;refine zAA _ _ hS hf0 (zn (.inr f) rfl ?_);rw [hv];exact q
theorem kz{a:Addr}{H:Hp}{Q:VK}{E:XK}:mx K [.ref a] H Q E=∃d:FB.Deed,SqT K H a d.vs/\d.fine/\Q (sV d) H:=propext ⟨by rintro ⟨_,d,e,q⟩;cases e;exact ⟨d,q⟩,by rintro ⟨d,q⟩;exact zAD a d rfl q⟩
variable {H:Hp} {Q:VK} {a p:Addr} {i:Nat}
def nl(ps:List Nat):List V:=ps.map fun p:Nat=>V.int p
def soN(ds:List FB.Deed)(p:Nat):Nat:=cK (ds.getD p (.tell (.word 0)))
def uN(us:List Int)(s:Nat):Int:=us.getD s 0
theorem k8{j:Nat}:∀{ps:List Nat},inV (.int j) (nl ps)=decide (j∈ps)
 | []=>rfl
 |p::ps=>by have ih:=k8 (j:=j) (ps:=ps);unfold inV nl at ih ⊢;rw [d9,qF,ih,FL.sZ,qE];simp only [Bool.or_eq_true,decide_eq_true_eq,List.mem_cons];exact ⟨fun h=>h.imp (fun e=>Jy) id,fun h=>h.imp (fun e=>Jy) id⟩
theorem gm:∀{ps:List Nat},(nl ps).all bF=true
 | []=>rfl
 |p::ps=>by have ih:=gm (ps:=ps);unfold nl at ih ⊢;rw [d9,sE,ih];rfl
theorem Hi{ps:List Nat}{p:Nat}(h:ps[i]?=some p):(nl ps)[i]?=some (V.int p):=by unfold nl;rw [cn,h];rfl
theorem fw{ps:List Nat}:(nl ps).length=ps.length:=by unfold nl;rw [zq1]
theorem zk{ds:List FB.Deed}{p:Nat}(h:p<ds.length):(ds.map sV)[p]?=some (sV (ds.getD p (.tell (.word 0)))):=by rw [cn,zq8 h,fJ,zq8 h];rfl
theorem Eb{ds:List FB.Deed}{bt:List Nat}{s:Nat}(h:s<3):de (.int s) (bt.map fun p=>sV (ds.getD p (.tell (.word 0))))=GD.fO (soN ds) bt s:=by unfold de GD.fO;rw [List.countP_map];apply List.countP_congr;intro p _;show eqV (sV (ds.getD p (.tell (.word 0)))) (.int s)=true↔_;rw [GU h];rfl
theorem B6{d:FB.Deed}:bF (sV d)=true:=by unfold sV;split<;>rfl
def Hg(b so gp:Addr):List (Str×V):=[("units",.ref b),("sorts",.ref so),("gaps",.ref gp)]
structure LayerH(K:W.Frag)(C:Addr)(H:Hp)(p:Addr)(ds:List FB.Deed)(us:List Int):Prop where
 ob:∃(dx b so gp:Addr)(qs:List Addr),H p=some (.ins C dx (Hg b so gp))/\SqT K H b (us.map V.int)/\H so=some (.lst (ds.map sV))/\H gp=some (.lst (qs.map V.ref))/\qs.length=ds.length/\∀(k:Nat)q,qs[k]?=some q->H q=some (.lst ((List.range k).map fun j=>FB.nq (aQ ds j k)))
 h8:ds.length<=8
 h3:us.length=3
 hp:∀u∈us,0<u/\u<=3
theorem LayerH.same{K:W.Frag}{C:Addr}{H':Hp}{ds:List FB.Deed}{us:List Int}(s:Same H H')(h:LayerH K C H p ds us):LayerH K C H' p ds us:=
 ⟨let ⟨dx,b,so,gp,qs,e1,e2,e3,e4,e5,e6⟩:=h.ob;(zAW dx b so gp qs (s _ _ e1) (s.seqT e2) (s _ _ e3) (s _ _ e4) e5 fun k q hk=>s _ _ (e6 k q hk)),h.h8,h.h3,h.hp⟩
theorem LayerH.pos{K:W.Frag}{C:Addr}{ds:List FB.Deed}{us:List Int}(h:LayerH K C H p ds us):∀s,s<3->0<uN us s:=fun s hs=>by have hl:=h.h3;unfold uN;rw [fJ,zq8 Jy];exact (h.hp _ (nQ _)).1
def sI(K:W.Frag)(C:Addr)(p d b:Addr)(i:Int)(H:Hp)(Q:VK):Prop:=∃(ds:List FB.Deed)(us:List Int)(dn bt:List Nat)(pl:Nat),i=pl/\LayerH K C H p ds us/\SqT K H d (nl dn)/\SqL K H b (nl bt)/\pl<ds.length/\(∀q∈bt,q<ds.length)/\bt.length<=8/\∀H',Same H H'->Q (.bl (GD.bQ (aQ ds) (soN ds) (uN us) dn bt pl)) H'
def uf(K:W.Frag)(C:Addr):Sp:=fun vs H Q _=>∃(p d b:Addr)(i:Int),vs=[.ref p,.ref d,.ref b,.int i]/\sI K C p d b i H Q
theorem kq{C d b:Addr}{i:Int}{E:XK}:uf K C [.ref p,.ref d,.ref b,.int i] H Q E=sI K C p d b i H Q:=propext ⟨by rintro ⟨_,_,_,_,e,q⟩;cases e;exact q,fun q=>zAP p d b i rfl q⟩
theorem kr{i j:Int}{E:XK}:zp K [.ref a,.int i,.int j] H Q E=∃(xs:List V)(ds:List FB.Deed)(m k:Nat),i=m/\j=k/\SqL K H a xs/\DeedsV K H xs ds/\m<k/\k<ds.length/\∀H',Same H H'->Q (FB.nq (aQ ds m k)) H':=propext ⟨by
  rintro ⟨_,xs,ds,m,k,d,e,ev,h1,h2,h3,h4,h5,q⟩
  cases ev
  refine zBE xs ds m k rfl rfl h1 h2 h3 (zq10.mp h5).1 ?_;unfold aQ;rw [h4,h5];exact q,by
  rintro ⟨xs,ds,m,k,rfl,rfl,h1,h2,h3,h4,q⟩;obtain ⟨d,hd⟩:∃d,ds[m]?=some d:=⟨_,zq8 Jy⟩
  obtain ⟨e,he⟩:∃e,ds[k]?=some e:=⟨_,zq8 h4⟩
  refine zBC a xs ds m k d e rfl h1 h2 h3 hd he ?_;unfold aQ at q;rw [hd,he] at q;exact q⟩
theorem ixL{xs:List V}{v:V}(h:SqL K H a xs)(hv:xs[i]?=some v)(q:Q v H):EW K (.ref a) (.int i) H Q:=by rwa [];exact zAA _ _ h (cf hv) q
theorem ixT{xs:List V}{v:V}(h:SqT K H a xs)(hv:xs[i]?=some v)(q:Q v H):BI K (.ref a) (.int i) H Q:=by rwa [];exact zAA _ _ h (cf hv) q
theorem tH(T:Txt K mg t):FnOk P w K mg base CX0 1 t.f_128 t.e_128 ["self","done","beat","place"] (uf K t.C_Layer):=by
 refine T.d_128.F.ok sc_128 ∅ ?_;rintro cdv A outer s H vs Q E hr ⟨p,d,b,i,rfl,ds,us,dn,bt,pl,rfl,L,hD,hB,hpl,hbt,hlb,q⟩;obtain ⟨dx,ub,sb,gb,qs,hob,hU,hSo,hGp,hql,hq⟩:=L.ob;have h3:=L.h3;refine ⟨_,
   (XSs.h
   (ai
    (au (i:=4) sc_128.nd rfl ll (aq b7 (aM (yqv 0 vc) rfl) (yqv 3 vl)))
   (c7
    (aG (cw (cI (ap iF (yqv 4 vl) d5 (aA _)) (cr (ap aZ (cg PySem.F.plainAttrs_list PySem.F.slot_list_count PySem.F.type_list_count xP (bS (tns:=["other"]) (cns:=["self"]) (ci:=[0]) rfl (CompSc.of Jw) (bc (yqv 2 vl)) (fun _=>(aC (i:=1) (show List.Nodup [(".0":Str),("other":Str),("self":Str)] by decide +kernel) rfl ll (Or.inr Jw))) (fun _=>cz) (fun _=>(aq b7 (aM (yqv 2 vc) rfl) (yqv 1 vl)))) (aa (yqv 4 vl) ae)) (aq az (aM (yqv 0 vc) rfl) (yqv 4 vl)) (aA _)))))
     (ak
      (aw cD))
     aD)
   (ai
    (bG PassesOwn.never rfl (kO T.z_enumerate (aa (aq b7 (aM (yqv 0 vc) rfl) (yqv 3 vl)) ae) gl) (dP rfl (aU (aC (i:=5) sc_128.nd rfl ll) (aU (aC (i:=6) sc_128.nd rfl ll) d6)))
     (ai
      (au (i:=7) sc_128.nd rfl ll (GG (bP cu (yqv 5 vl) (yqv 1 vl) rfl) (iV (gI (bP aZ (yqv 6 vl) aj (aA _)) (iV (bP cu (yqv 5 vl) (yqv 2 vl) rfl))))))
     (ak
      (aG (cw (cI (ap iF (yqv 6 vl) d5 (aA _)) (cr (dQ (cj (yqv 7 vl))))))
       (ak
        (aw cD))
       aD))))
   (ak
    (aw cD)))))),?_⟩
 rw [show aP _ [V.ref p,V.ref d,V.ref b,V.int pl]=[some (.ref p),some (.ref d),some (.ref b),some (.int pl),none,none,none,none] from rfl];simp_arith! [];refine bZ hob T.c_Layer.cl T.n_Layer_sorts rfl (ixL (SqL.of hSo) (zk hpl) ?_);refine later ?_;simp_arith! [];refine zn (fun σ H'=>Same H H'/\(soN ds pl<3->(GD.fO (soN ds) bt (soN ds pl):Int)≠uN us (soN ds pl))/\σ=[some (.ref p),some (.ref d),some (.ref b),some (.int pl),some (sV (ds.getD pl (.tell (.word 0)))),none,none,none]) ?_ ?_
 ·by_cases hs:soN ds pl<3
  ·have e:sV (ds.getD pl (.tell (.word 0)))=.int (soN ds pl):=if_pos hs;rw [e];rwa [];refine ⟨⟨_,hB⟩,fun acc hacc bk=>?_⟩;refine oF (fun _=>true) (fun x=>sV (GS ds (match x with | .int i=>i | _=>0))) (by rw [fw,sizeLine_eq];omega) hB hacc (fun x _ H2 Q' s2 h=>h H2 (Same.refl _)) (fun x hx H2 Q' s2 _ h=>?_) fun H2 s2 hacc2=>?_
   ·obtain ⟨qp,hqm,rfl⟩:=zq23.mp hx;rwa [];exact bZ (s2 _ _ hob) T.c_Layer.cl T.n_Layer_sorts rfl (ixL (SqL.of (s2 _ _ hSo)) (zk (hbt qp hqm)) (h H2 (Same.refl _)))
   ·rw [i6] at hacc2;have el:List.map (fun x=>sV (GS ds (match x with | .int i=>i | _=>0))) (nl bt)=bt.map fun p=>sV (ds.getD p (.tell (.word 0))):=by unfold nl;rw [jH];rfl
    rw [el] at hacc2;have hu:(us.map V.int)[soN ds pl]?=some (V.int (uN us (soN ds pl))):=by unfold uN;rw [cn,zq8 Jy,fJ,zq8 Jy];rfl
    refine ⟨.inl ⟨rfl,_,SqL.of hacc2⟩,zAF _ (SqL.of hacc2) rfl ?_ ?_⟩
    ·rw [Ao,zq36];exact fun x _=>B6
    refine bZ (s2 _ _ hob) T.c_Layer.cl T.n_Layer_units rfl (ixT (s2.seqT hU) hu ?_);rw [Eb hs];rwa [];refine aB (fun z=>?_) (fun z=>⟨s2,fun _=>z⟩);have hf:GD.bQ (aQ ds) (soN ds) (uN us) dn bt pl=false:=by
     cases hf:GD.bQ (aQ ds) (soN ds) (uN us) dn bt pl with
     |false=>rfl
     |true=>exact absurd z ((GD.fits_iff.mp hf).1 hs)
    rw [hf] at q;exact q H2 s2
  ·have e:sV (ds.getD pl (.tell (.word 0)))=.non:=if_neg hs;rw [e];rwa [];exact ⟨Same.refl H,fun z=>absurd z hs⟩
 ·rintro σ H1 ⟨s1,hc,rfl⟩;refine later ?_;obtain ⟨gq,hgq⟩:∃gq,qs[pl]?=some gq:=⟨_,zq8 Jy⟩
  have hG:=hq pl gq hgq;rwa [];refine bZ (s1 _ _ hob) T.c_Layer.cl T.n_Layer_gaps rfl (ixL (SqL.of (s1 _ _ hGp)) (v:=.ref gq) (by rw [cn,hgq];rfl) (zAC gq rfl ⟨_,SqL.of (s1 _ _ hG)⟩ ?_));refine mP (xs:=(List.range pl).map fun j=>FB.nq (aQ ds j pl)) (fun i σ H'=>Same H H'/\(∀j,j<i->GD.cX (aQ ds) dn bt pl j=true)/\∃o5 o6 o7,σ=[some (.ref p),some (.ref d),some (.ref b),some (.int pl),some (sV (ds.getD pl (.tell (.word 0)))),o5,o6,o7]) (zAB s1 (fun j hj=>absurd hj Jy) (zAH _ _ _ rfl)) (fun i σ H' _ h=>SqL.of (h.1 _ _ hG)) ?_ ?_
  ·rintro i x σ H2 pp hx hpp ⟨s2,hah,o5,o6,o7,rfl⟩;have hi:i<pl:=by have:=(zq10.mp hx).1;rwa [zq1,fc] at this
   rw [cn,wK hi] at hx
   cases hx
   have s3:Same H (upd H2 pp (.tup [.int i,FB.nq (aQ ds i pl)])):=s2.updN hpp;rwa [];refine zAC _ (SqT.of ac) rfl ?_;have ih:GD.cX (aQ ds) dn bt pl i=true->∀j,j<i+1->GD.cX (aQ ds) dn bt pl j=true:=fun h j hj=>by
    by_cases e:j=i
    ·rw [e];exact h
    ·exact hah j Jy
   have no:GD.cX (aQ ds) dn bt pl i=false->GD.bQ (aQ ds) (soN ds) (uN us) dn bt pl=false:=fun h=>by
    cases hf:GD.bQ (aQ ds) (soN ds) (uN us) dn bt pl with
    |false=>rfl
    |true=>have z:=(GD.fits_iff.mp hf).2 i hi;rw [h] at z;cases z
   unfold GD.cX at ih no
   cases hg:aQ ds i pl with
   |none=>
    rw [hg] at ih s3;simp_arith [FB.nq] at s3 ⊢;have ih':=ih rfl;refine zAF _ (.inr (s3.seqT hD)) rfl gm ?_
    split
    ·split<;>exact zAB s3 ih' (zAH _ _ _ rfl)
    ·refine ⟨rfl,zn _ rfl ?_⟩;rw [show decide (V.non=V.int 0)=false from rfl];simp only [decide_true,Bool.not_true,Bool.false_eq_true,if_false];exact zAB s3 ih' (zAH _ _ _ rfl)
   |some l=>
    rw [hg] at ih no s3;simp_arith [FB.nq] at s3 ⊢;dsimp only at ih no;refine zAF _ (.inr (s3.seqT hD)) rfl gm ?_;rw [k8,show decide (V.int l=V.non)=false from rfl]
    by_cases h1:i∈dn
    ·rw [if_pos (decide_eq_true h1)]
     split<;>exact zAB s3 (ih (by simp [h1])) (zAH _ _ _ rfl)
    ·rw [if_neg (by simp [h1])]
     by_cases h2:l=0
     ·rw [if_pos (decide_eq_true h2)];refine zAF _ (.inl (s3.seq hB)) rfl gm ?_;rw [k8]
      by_cases h3':i∈bt
      ·simp only [h3',decide_true,Bool.not_true,Bool.not_false,Bool.false_eq_true,if_false,if_true];exact zAB s3 (ih (by simp [h2,h3'])) (zAH _ _ _ rfl)
      ·simp only [h3',decide_false,Bool.not_true,Bool.not_false,Bool.false_eq_true,if_false,if_true];rw [no (by simp [h1,h3'])] at q;exact q _ s3
     ·rw [if_neg (by simp [h2])];simp only [Bool.not_true,Bool.not_false,Bool.false_eq_true,if_false,if_true];rw [no (by simp [h1,h2])] at q;exact q _ s3
  ·rintro σ H2 ⟨s2,hah,o5,o6,o7,rfl⟩;rw [zq1,fc] at hah;have hf:GD.bQ (aQ ds) (soN ds) (uN us) dn bt pl=true:=GD.fits_iff.mpr ⟨hc,hah⟩;rw [hf] at q;rwa [];exact q H2 s2
def mF(K:W.Frag)(H:Hp)(a b:Addr)(ds:List FB.Deed)(us:List Int):Prop:=∃xs,SqL K H a xs/\DeedsV K H xs ds/\ds.length<=8/\SqT K H b (us.map V.int)/\us.length=3/\∀u∈us,0<u/\u<=3
variable {H:Hp}
def LLN(H:Hp)(c:Addr)(bts:List (List Nat)):Prop:=∃ps:List Addr,H c=some (.lst (ps.map V.ref))/\Paired (fun p (b:List Nat)=>H p=some (.lst (nl b))) ps bts
theorem LLN.same{H':Hp}{c:Addr}{bts:List (List Nat)}(s:Same H H')(h:LLN H c bts):LLN H' c bts:=
 let ⟨ps,e,r⟩:=h;(zn ps (s _ _ e) (Paired.mapP r fun _ _ z=>s _ _ z))
theorem Ey{mo r:Addr}{rs:List Addr}{b:List Nat}(h1:H mo=some (.lst (rs.map V.ref)))(h2:H r=some (.lst (nl b)))(hr:r∈rs):r≠mo:=by
 rintro rfl;rw [h1] at h2;have e:rs.map V.ref=nl b:=HO.lst.inj (Option.some.inj h2)
 cases rs with
 |nil=>cases hr
 |cons x xs=>
  cases b with
  |nil=>cases e
  |cons y ys=>
   unfold nl at e;rw [d9,d9] at e
   cases (List.cons.inj e).1
theorem tP{H:Hp}{mo:Addr}{rs:List Addr}{o:HO}(h:H mo=some (.lst (rs.map V.ref))):∀{rs':List Addr} {bs:List (List Nat)},Paired (fun r (b:List Nat)=>H r=some (.lst (nl b))) rs' bs->(∀r∈rs',r∈rs)->Paired (fun r (b:List Nat)=>upd H mo o r=some (.lst (nl b))) rs' bs
 |_,_,.nil,_=>.nil
 |_,_,.cons z t,hm=>.cons (by rw [ao (Ey h z (hm _ Jz))];exact z) (tP h t fun r hr=>hm r (zq6 _ hr))
theorem yy{H:Hp}{mo:Addr}{rs:List Addr}{bs:List (List Nat)}{r:Addr}{b:List Nat}(h:H mo=some (.lst (rs.map V.ref)))(hp:Paired (fun r (b:List Nat)=>H r=some (.lst (nl b))) rs bs)(hr:H r=some (.lst (nl b)))(ne:r≠mo):
  Paired (fun q (b:List Nat)=>upd H mo (.lst (rs.map V.ref++[.ref r])) q=some (.lst (nl b))) (rs++[r]) (bs++[b]):=Paired.snoc (tP h hp fun _ h=>h) (by rw [ao ne];exact hr)
theorem Be{bt:List Nat}{p:Nat}:nl bt++[V.int p]=nl (bt++[p]):=by unfold nl;rw [cy];rfl
def sP(K:W.Frag)(C:Addr)(p d b m:Addr)(H:Hp)(Q:VK):Prop:=∃(ds:List FB.Deed)(us:List Int)(dn bt ms:List Nat),LayerH K C H p ds us/\SqT K H d (nl dn)/\SqL K H b (nl bt)/\SqL K H m (nl ms)/\(∀q∈bt,q<ds.length)/\bt.length<=8/\(∀q∈ms,q<ds.length)/\ms.length<=8/\∀H',Same H H'->Q (.bl (GD.roomB (aQ ds) (soN ds) (uN us) dn bt ms)) H'
def uw(K:W.Frag)(C:Addr):Sp:=fun vs H Q _=>∃(p d b m:Addr),vs=[.ref p,.ref d,.ref b,.ref m]/\sP K C p d b m H Q
def oe(K:W.Frag)(C:Addr)(p d c:Addr)(i:Int)(H:Hp)(Q:VK):Prop:=∃(ds:List FB.Deed)(us:List Int)(dn:List Nat)(bts:List (List Nat)) (pl:Nat),i=pl/\LayerH K C H p ds us/\SqT K H d (nl dn)/\LLN H c bts/\pl<ds.length/\(∀b∈bts,(∀q∈b,q<ds.length)/\b.length<=7)/\bts.length<=1000/\
 ∀c' H',Same H H'->LLN H' c' (GD.bH (aQ ds) (soN ds) (uN us) dn bts pl)->Q (.ref c') H'
def pX(K:W.Frag)(C:Addr):Sp:=fun vs H Q _=>∃(p d c:Addr)(i:Int),vs=[.ref p,.ref d,.ref c,.int i]/\oe K C p d c i H Q
theorem rQ{C p d b m:Addr}{Q:VK}{E:XK}:uw K C [.ref p,.ref d,.ref b,.ref m] H Q E=sP K C p d b m H Q:=propext ⟨by rintro ⟨_,_,_,_,e,q⟩;cases e;exact q,fun q=>zAP p d b m rfl q⟩
theorem tX{C p d c:Addr}{i:Int}{Q:VK}{E:XK}:pX K C [.ref p,.ref d,.ref c,.int i] H Q E=oe K C p d c i H Q:=propext ⟨by rintro ⟨_,_,_,_,e,q⟩;cases e;exact q,fun q=>zAP p d c i rfl q⟩
def fRm(f:Nat->Bool):V->V
 | .int i=>.bl (f i.toNat)
 |_=>.non
theorem Bq(T:Txt K mg t):FnOk P w K mg base CX0 2 t.f_127 t.e_127 ["self","done","beat","missing"] (uw K t.C_Layer):=by
 have G_128:=@tH P w K mg base t T;refine T.d_127.F.ok Gd ∅ ?_;rintro cdv A outer s H vs Q E hr ⟨p,d,b,m,rfl,ds,us,dn,bt,ms,L,hD,hB,hM,hbt,hlb,hms,hlm,q⟩;refine ⟨_,
   (XSs.h
   (ak
    (aw (aK (oy rfl) gl T.z_any boot_any (aa (bS (tns:=["place"]) (cns:=["self","done","beat"]) (ci:=[0,1,2]) rfl (CompSc.of Jw) (bc (yqv 3 vl)) (fun _=>(aC (i:=1) (show List.Nodup [(".0":Str),("place":Str),("self":Str),("done":Str),("beat":Str)] by decide +kernel) rfl ll (Or.inr Jw))) (fun _=>cz) (fun _=>(gI (bP iE (yqv 1 vl) (yqv 4 vc) rfl) (iV (aT T.c_Layer.cl T.d_128 G_128 hr.m (yqv 2 vc) (aa (yqv 3 vc) (aa (yqv 4 vc) (aa (yqv 1 vl) ae)))))))) ae))))),?_⟩
 rw [show aP _ [V.ref p,V.ref d,V.ref b,V.ref m]=[some (.ref p),some (.ref d),some (.ref b),some (.ref m)] from rfl];rwa [kq];refine ⟨⟨_,hM⟩,fun acc hacc bk=>?_⟩;refine oF (fun _=>true) (fRm fun q=>!decide (q∈bt)&&GD.bQ (aQ ds) (soN ds) (uN us) dn bt q) (by rw [fw,sizeLine_eq];omega) hM hacc (fun x _ H2 Q' s2 h=>h H2 (Same.refl _)) (fun x hx H2 Q' s2 _ h=>?_) fun H2 s2 hacc2=>?_
 ·obtain ⟨qp,hqm,rfl⟩:=zq23.mp hx;rwa [kq];refine zAF _ (.inl (s2.seq hB)) rfl gm ?_;rw [k8];have h':∀H',Same H2 H'->Q' (.bl (!decide (qp∈bt)&&GD.bQ (aQ ds) (soN ds) (uN us) dn bt qp)) H':=h;obtain ⟨dx,ub,sb,gb,qs,hob,_⟩:=(L.same s2).ob;refine fS (fun hn=>?_) (fun hn=>?_)
  ·rw [decide_eq_false hn,Bool.not_false,AA] at h';exact bq hob rfl (zAS ds us dn bt qp (zBF rfl (L.same s2) (s2.seqT hD) (s2.seq hB) (hms qp hqm) hbt hlb h'))
  ·rw [decide_eq_true hn,Bool.not_true,zY] at h';exact h' H2 (Same.refl _)
 rw [i6] at hacc2;refine zn (ms.map fun q=>!decide (q∈bt)&&GD.bQ (aQ ds) (soN ds) (uN us) dn bt q) (SqL.of ?_) ?_
 ·rw [hacc2];unfold nl;rw [jH,jH];rfl
 ·have z:=q H2 s2;unfold GD.roomB at z;rw [Ap];exact z
theorem xX(T:Txt K mg t):FnOk P w K mg base CX0 2 t.f_126 t.e_126 ["self","done","beats","place"] (pX K t.C_Layer):=by
 have G_128:=@tH P w K mg base t T;refine T.d_126.F.ok sc_126 ∅ ?_;rintro cdv A outer s H vs Q E hr ⟨p,d,c,i,rfl,ds,us,dn,bts,pl,rfl,L,hD,hC,hpl,hb,hl,q⟩;obtain ⟨ps,hc,hps⟩:=hC;have lps:=hps.length;refine ⟨_,
   (XSs.h
   (ai
    (au (i:=4) sc_126.nd rfl ll (aN ae))
   (ai
    (bG PassesOwn.never rfl (bc (yqv 2 vl)) (aC (i:=5) sc_126.nd rfl ll)
     (ai
      (au (i:=6) sc_126.nd rfl ll (aT T.c_Layer.cl T.d_128 G_128 hr.m (yqv 0 vl) (aa (yqv 1 vl) (aa (yqv 5 vl) (aa (yqv 3 vl) ae)))))
     (c7
      (aG (cj (yqv 6 vl))
       (ak
        (aR (cg PySem.F.plainAttrs_list PySem.F.slot_list_append PySem.F.type_list_append bg (yqv 4 vl) (aa (av eN (yqv 5 vl) (aN (aa (yqv 3 vl) ae))) ae))))
       aD)
     (ak
      (aG (cw (ii (dQ (cj (yqv 6 vl))) (gJ (ap iF (aq b7 (aM (yqv 0 vl) rfl) (yqv 3 vl)) d5 (aA _)))))
       (ak
        (aR (cg PySem.F.plainAttrs_list PySem.F.slot_list_append PySem.F.type_list_append bg (yqv 4 vl) (aa (yqv 5 vl) ae))))
       aD)))))
   (ak
    (aw (yqv 4 vl)))))),?_⟩
 rw [show aP _ [V.ref p,V.ref d,V.ref c,V.int pl]=[some (.ref p),some (.ref d),some (.ref c),some (.int pl),none,none,none] from rfl];rwa [kq];intro mo hmo;refine ⟨⟨_,SqL.of (Same.upd hmo _ _ hc)⟩,?_⟩;refine dk (xs:=ps.map V.ref) (fun i σ H'=>Same H H'/\∃(rs:List Addr)(o5 o6:Option V),σ=[some (.ref p),some (.ref d),some (.ref c),some (.int pl),some (.ref mo),o5,o6]/\H' mo=some (.lst (rs.map V.ref))/\Paired (fun p (b:List Nat)=>H' p=some (.lst (nl b))) rs (GD.bH (aQ ds) (soN ds) (uN us) dn (bts.take i) pl)) ⟨Same.upd hmo,zAN ([]) none none rfl ac .nil⟩ (fun i σ H' _ h=>SqL.of (h.1 _ _ hc)) ?_ ?_
 ·rintro i x σ H1 hx ⟨s1,rs,o5,o6,rfl,hm1,hrs⟩;rw [cn] at hx;obtain ⟨bp,hbp,rfl⟩:=zq32.mp hx;obtain ⟨bt,hbt,hpb⟩:=Paired.get hps hbp;obtain ⟨hi,ei⟩:=zq10.mp hbt;obtain ⟨b1,b2⟩:=hb bt (zq9 hbt);simp_arith only [kq];obtain ⟨dx,ub,sb,gb,qs,hob,hU,hSo,hGp,hql,hq⟩:=(L.same s1).ob;refine bq hob rfl (zAS ds us dn bt pl (zBF rfl (L.same s1) (s1.seqT hD) (SqL.of (s1 _ _ hpb)) hpl b1 Jy fun H2 s2=>?_));refine later ?_;simp_arith! [kq];have s3:=s1.trans s2;have hr2:Paired (fun p (b:List Nat)=>H2 p=some (.lst (nl b))) rs (GD.bH (aQ ds) (soN ds) (uN us) dn (bts.take i) pl):=Paired.mapP hrs fun _ _ z=>s2 _ _ z;have e4:GD.bH (aQ ds) (soN ds) (uN us) dn (bts.take (i+1)) pl=GD.bH (aQ ds) (soN ds) (uN us) dn (bts.take i) pl++GD.gY (aQ ds) (soN ds) (uN us) dn bt pl:=by unfold GD.bH;rw [eg hi,ei,List.flatMap_append,List.flatMap_singleton]
  rw [e4];have lr:=hrs.length;have lg:=GD.j6 (G:=aQ ds) (so:=soN ds) (U:=uN us) (dn:=dn) (bts.take i) pl;rw [dS] at lg;refine ⟨fun σ H'=>Same H H'/\∃rs:List Addr,σ=[some (.ref p),some (.ref d),some (.ref c),some (.int pl),some (.ref mo),some (.ref bp),some (.bl (GD.bQ (aQ ds) (soN ds) (uN us) dn bt pl))]/\H' mo=some (.lst (rs.map V.ref))/\Paired (fun p (b:List Nat)=>H' p=some (.lst (nl b))) rs (GD.bH (aQ ds) (soN ds) (uN us) dn (bts.take i) pl++(if GD.bQ (aQ ds) (soN ds) (uN us) dn bt pl=true then [bt++[pl]] else [])),?_,?_⟩
  ·cases hf:GD.bQ (aQ ds) (soN ds) (uN us) dn bt pl with
   |true=>
    rwa [if_true];refine ⟨.inl ⟨rfl,_,SqL.of (s2 _ _ hm1)⟩,fun p3 hp3=>zAE (nl bt) ([V.int pl]) (Same.upd hp3 _ _ (s2 _ _ (s1 _ _ hpb))) ac (by rw [fw,sizeLine_eq,c9];omega) fun p4 hp4=>?_⟩;have s5:=(Same.upd (o:=.lst [V.int pl]) hp3).trans (Same.upd (o:=.lst (nl bt++[V.int pl])) hp4);have m5:=s5 _ _ (s2 _ _ hm1);refine zAF (rs.map V.ref) m5 (by rw [zq1,sizeLine_eq];omega) ((s3.trans s5).updM hmo) (zn (rs++[p4]) (by rw [ac,cy];rfl) ?_);exact yy m5 (Paired.mapP hr2 fun _ _ z=>s5 _ _ z) (by rw [ac,Be]) (am (Same.upd hp3 _ _ (s2 _ _ hm1)) hp4).symm
   |false=>rwa [Bool.false_eq_true,if_false,List.append_nil];exact ⟨s3,zn rs (s2 _ _ hm1) hr2⟩
  ·rintro σ H3 ⟨s4,rs2,rfl,hm3,hr3⟩;refine later ?_;have lr3:=hr3.length;rw [zq4] at lr3;have l1:(if GD.bQ (aQ ds) (soN ds) (uN us) dn bt pl=true then [bt++[pl]] else []).length<=1:=by split<;>simp
   have app:∀v6:V,(GD.bQ (aQ ds) (soN ds) (uN us) dn bt pl=false\/soN ds pl<3)->tyV K "list" (V.ref mo) H3/\∃xs,H3 mo=some (.lst xs)/\xs.length<sizeLine/\Same H (upd H3 mo (.lst (xs++[V.ref bp])))/\∃(rs:List Addr)(o5 o6:Option V),
     [some (V.ref p),some (V.ref d),some (V.ref c),some (V.int ↑pl),some (V.ref mo),some (V.ref bp),some v6]=[some (V.ref p),some (V.ref d),some (V.ref c),some (V.int ↑pl),some (V.ref mo),o5,o6]/\upd H3 mo (.lst (xs++[V.ref bp])) mo=some (.lst (rs.map V.ref))/\
      Paired (fun p (b:List Nat)=>upd H3 mo (.lst (xs++[V.ref bp])) p=some (.lst (nl b))) rs (GD.bH (aQ ds) (soN ds) (uN us) dn (bts.take i) pl++GD.gY (aQ ds) (soN ds) (uN us) dn bt pl):=fun v6 hor=>by
    refine ⟨.inl ⟨rfl,_,SqL.of hm3⟩,zAF _ hm3 (by rw [zq1,sizeLine_eq];omega) (s4.updM hmo) (zAN (rs2++[bp]) _ _ rfl (by rw [ac,cy];rfl) ?_)⟩;unfold GD.gY;rw [if_pos hor,<- qI];exact yy hm3 hr3 (s4 _ _ hpb) (am hpb hmo)
   rwa []
   cases hf:GD.bQ (aQ ds) (soN ds) (uN us) dn bt pl with
   |false=>
    simp only [Bool.not_false,if_true];exact app _ (.inl hf)
   |true=>
    simp only [Bool.not_true,Bool.false_eq_true,if_false];obtain ⟨dx,ub,sb,gb,qs,hob,hU,hSo,hGp,hql,hq⟩:=(L.same s4).ob;refine bZ hob T.c_Layer.cl T.n_Layer_sorts rfl (ixL (SqL.of hSo) (zk hpl) ?_)
    by_cases hs:soN ds pl<3
    ·rw [show sV (ds.getD pl (.tell (.word 0)))=.int (soN ds pl) from if_pos hs,show decide (V.int (soN ds pl)=V.non)=false from rfl];simp only [Bool.not_false,if_true];exact app _ (.inr hs)
    ·rw [show sV (ds.getD pl (.tell (.word 0)))=.non from if_neg hs];simp only [decide_true,Bool.not_true,Bool.false_eq_true,if_false];refine ⟨s4,zAN rs2 _ _ rfl hm3 ?_⟩;unfold GD.gY;rw [if_neg (show ¬(GD.bQ (aQ ds) (soN ds) (uN us) dn bt pl=false\/soN ds pl<3) by rw [hf];simp [hs]),gQ];exact hr3
 ·rintro σ H1 ⟨s1,rs,o5,o6,rfl,hm1,hrs⟩;rwa [];rw [zq1,lps,eE] at hrs;exact q mo H1 s1 (zn rs hm1 hrs)
def sJ(K:W.Frag)(C:Addr)(p d:Addr)(H:Hp)(Q:VK):Prop:=∃(ds:List FB.Deed)(us:List Int)(dn:List Nat),LayerH K C H p ds us/\SqT K H d (nl dn)/\∀c H',Same H H'->LLN H' c (GD.c5 (aQ ds) (soN ds) (uN us) ds.length dn)->Q (.ref c) H'
def ug(K:W.Frag)(C:Addr):Sp:=fun vs H Q _=>∃(p d:Addr),vs=[.ref p,.ref d]/\sJ K C p d H Q
def oj(K:W.Frag)(C:Addr)(p a b:Addr)(H:Hp)(Q:VK):Prop:=∃(H0:Hp)(dx:Addr)(ds:List FB.Deed)(us:List Int),Same H0 H/\H0 p=none/\H p=some (.ins C dx [])/\mF K H0 a b ds us/\∀H',Same H0 H'->LayerH K C H' p ds us->Q .non H'
def q9(K:W.Frag)(C:Addr):Sp:=fun vs H Q _=>∃(p a b:Addr),vs=[.ref p,.ref a,.ref b]/\oj K C p a b H Q
theorem rO{C p d:Addr}{H:Hp}{Q:VK}{E:XK}:ug K C [.ref p,.ref d] H Q E=sJ K C p d H Q:=propext ⟨by rintro ⟨_,_,e,q⟩;cases e;exact q,fun q=>zAD p d rfl q⟩
theorem BX{C p a b:Addr}{H:Hp}{Q:VK}{E:XK}:q9 K C [.ref p,.ref a,.ref b] H Q E=oj K C p a b H Q:=propext ⟨by rintro ⟨_,_,_,e,q⟩;cases e;exact q,fun q=>zAK p a b rfl q⟩
theorem gA{f:Str}{v:V}:∀{fs:List (Str×V)},(fs.map (·.1)).contains f=false->dc f v fs=fs++[(f,v)]
 | [],_=>rfl
 | (g,x)::r,h=>by
  rw [d9,List.contains_cons,Bool.or_eq_false_iff] at h;have n:¬g=f:=fun z=>by subst z;simp at h
  rw [show dc f v ((g,x)::r)=(if g=f then (g,v)::r else (g,x)::dc f v r) from rfl,if_neg n,gA h.2];rfl
theorem tu{ds:List FB.Deed}{us:List Int}{dn:List Nat}:∀(ms:List Nat)(bts:List (List Nat)) (m:Nat),(∀q∈ms,q<ds.length)->(∀b∈bts,(∀q∈b,q<ds.length)/\b.length<=m)->∀b∈ms.foldl (GD.bH (aQ ds) (soN ds) (uN us) dn) bts,(∀q∈b,q<ds.length)/\b.length<=m+ms.length
 | [],_,_,_,h=>h
 |p::ms,bts,m,h1,h2=>fun b hb=>by
  have z:=tu ms (GD.bH (aQ ds) (soN ds) (uN us) dn bts p) (m+1) (fun q hq=>h1 q (zq6 _ hq)) (fun c hc=>by
   obtain ⟨b',hb',hc⟩:=zq74.mp hc;obtain ⟨g1,g2⟩:=h2 b' hb';rcases GD.ph hc with ⟨_,rfl⟩ | rfl
   ·refine ⟨fun q hq=>?_,by rw [zq4,c9];omega⟩;rcases zq11.mp hq with hq | hq
    ·exact g1 q hq
    ·rw [zq2.mp hq];exact h1 p Jz
   ·exact ⟨g1,Jy⟩) b hb
  exact ⟨z.1,by rw [cJ];omega⟩
theorem pk{n:Nat}{dn:List Nat}:(GD.cq n dn).length<=n:=by have:=A5 (fun p=>!decide (p∈dn)) (List.range n);rwa [fc] at this
theorem Bi(T:Txt K mg t):FnOk P w K mg base CX0 3 t.f_125 t.e_125 ["self","done"] (ug K t.C_Layer):=by
 have G_127:=@Bq P w K mg base t T;have G_126:=@xX P w K mg base t T;refine T.d_125.F.ok sc_125 ∅ ?_;rintro cdv A outer s H vs Q E hr ⟨p,d,rfl,ds,us,dn,L,hD,q⟩;have h8:=L.h8;obtain ⟨dx,ub,sb,gb,qs,hob,hU,hSo,hGp,hql,hq⟩:=L.ob;refine ⟨_,
   (XSs.h
   (ai
    (au (i:=3) sc_125.nd rfl lc (bS (tns:=["place"]) (cns:=["done"]) (ci:=[1]) rfl (CompSc.of Jw) (cQ gl T.z_range (aa (aK aJ gl T.z_len PySem.boot_len (aa (aM (yqv 0 vc) rfl) ae)) ae)) (fun _=>(aC (i:=1) (show List.Nodup [(".0":Str),("place":Str),("done":Str)] by decide +kernel) rfl ll (Or.inr Jw))) (fun _=>(nL (ap iE (yqv 1 vl) (yqv 2 vc) rfl))) (fun _=>(yqv 1 vl))))
   (ai
    (au (i:=4) sc_125.nd rfl ll (aN (aa (aN ae) ae)))
   (ai
    (bG PassesOwn.never rfl (bc (yqv 3 vc)) (aC (i:=2) sc_125.nd rfl ll)
     (ak
      (au (i:=4) sc_125.nd rfl ll (aT T.c_Layer.cl T.d_126 G_126 hr.m (yqv 0 vc) (aa (yqv 1 vc) (aa (yqv 4 vl) (aa (yqv 2 vl) ae)))))))
   (ak
    (aw (bS (tns:=["beat"]) (cns:=["self","done","missing"]) (ci:=[0,1,3]) rfl (CompSc.of Jw) (bc (yqv 4 vl)) (fun _=>(aC (i:=1) (show List.Nodup [(".0":Str),("beat":Str),("self":Str),("done":Str),("missing":Str)] by decide +kernel) rfl ll (Or.inr Jw))) (fun _=>(nL (dQ (cj (aT T.c_Layer.cl T.d_127 G_127 hr.m (yqv 2 vc) (aa (yqv 3 vc) (aa (yqv 1 vl) (aa (yqv 4 vc) ae)))))))) (fun _=>(yqv 1 vl))))))))),?_⟩
 rw [show aP _ [V.ref p,V.ref d]=[some (.ref p),some (.ref d),none,none,none] from rfl];rwa [rQ,tX];refine bZ hob T.c_Layer.cl T.n_Layer_sorts rfl ?_;refine zAT sb _ rfl (.inl (SqL.of hSo)) (by rw [zq1];omega) (by rw [zq1];omega) fun acc hacc bk=>?_;rw [zq1,jF];refine oG (fun q=>!decide (q∈dn)) (fun q=>V.int q) (by rw [sizeLine_eq];omega) hacc (fun i hi H2 Q' s2 h=>?_) (fun i hi H2 Q' s2 _ h=>?_) fun H2 s2 hm=>?_
 ·rwa [];refine zAF _ (.inr (s2.seqT hD)) rfl gm ?_;rw [k8];exact h H2 (Same.refl _)
 ·rwa [];exact h H2 (Same.refl _)
 replace hm:H2 acc=some (.lst (nl (GD.cq ds.length dn))):=hm;have hml:=pk (n:=ds.length) (dn:=dn);have hmm:∀q∈GD.cq ds.length dn,q<ds.length:=fun q hq=>(GD.miss_iff.mp hq).1;have hfull:GD.c5 (aQ ds) (soN ds) (uN us) ds.length dn=((GD.cq ds.length dn).foldl (GD.bH (aQ ds) (soN ds) (uN us) dn) [[]]).filter fun b=>!GD.roomB (aQ ds) (soN ds) (uN us) dn b (GD.cq ds.length dn):=rfl;rw [hfull] at q;generalize GD.cq ds.length dn=ms at hm hml hmm q;have hbs:∀i,i<=ms.length->∀b∈(ms.take i).foldl (GD.bH (aQ ds) (soN ds) (uN us) dn) [[]],(∀q∈b,q<ds.length)/\b.length<=i:=fun i hi b hb=>by have z:=tu (us:=us) (dn:=dn) (ms.take i) [[]] 0 (fun q hq=>hmm q (wO hq)) (fun b hb=>by rw [zq2.mp hb];exact ⟨fun q hq=>(by cases hq),zq0 _⟩) b hb;rw [dS] at z;exact ⟨z.1,Jy⟩
 have hbl:∀i,i<=ms.length->((ms.take i).foldl (GD.bH (aQ ds) (soN ds) (uN us) dn) [[]]).length<=256:=fun i hi=>by have z:=GD.jZ (G:=aQ ds) (so:=soN ds) (U:=uN us) (dn:=dn) (ms.take i) [[]];rw [dS,c9,Nat.mul_one] at z;exact cL z (cL (Af Jx (show min i ms.length<=8 by omega)) Jx)
 intro p2 hp2 p3 hp3;have s3:=(Same.upd (o:=.lst []) hp2).trans (Same.upd (o:=.lst [V.ref p2]) hp3);refine ⟨⟨_,SqL.of (s3 _ _ hm)⟩,?_⟩;refine dk (xs:=nl ms) (fun i σ H'=>Same H H'/\H' acc=some (.lst (nl ms))/\∃(o2:Option V)(c:Addr),σ=[some (.ref p),some (.ref d),o2,some (.ref acc),some (.ref c)]/\LLN H' c ((ms.take i).foldl (GD.bH (aQ ds) (soN ds) (uN us) dn) [[]])) (zAB (s2.trans s3) (s3 _ _ hm) (zAD _ p3 rfl (zn ([p2]) ac (.cons ?_ .nil)))) (fun i σ H' _ h=>SqL.of h.2.1) ?_ ?_
 ·rw [ao (am ac hp3)];exact ac
 ·rintro i x σ H3 hx ⟨s4,hm3,o2,c,rfl,hl⟩;unfold nl at hx;rw [cn] at hx;obtain ⟨pl,hpl,rfl⟩:=zq32.mp hx;obtain ⟨hi,ei⟩:=zq10.mp hpl;rwa [tX];refine bq (s4 _ _ hob) rfl (zAS ds us dn _ pl (zBF rfl (L.same s4) (s4.seqT hD) hl (hmm pl (zq9 hpl)) (fun b hb=>⟨(hbs i Jy b hb).1,by have:=(hbs i Jy b hb).2;omega⟩) (by have:=hbl i Jy;omega) fun c' H4 s5 hl4=>zAB (s4.trans s5) (s5 _ _ hm3) (zAD _ c' rfl ?_)));rw [eg hi,ei,qJ];exact hl4
 ·rintro σ H3 ⟨s4,hm3,o2,c,rfl,ps,hc,hps⟩;rw [fw] at hps;have hbs':=hbs ms.length (zq0 _);have hbl':=hbl ms.length (zq0 _);rw [eE] at hps hbs' hbl';generalize ms.foldl (GD.bH (aQ ds) (soN ds) (uN us) dn) [[]]=bts at hps hbs' hbl' q;have lps:=hps.length;rwa [rQ];refine ⟨⟨_,SqL.of hc⟩,fun acc2 hacc2 bk2=>?_⟩;refine eF (xs:=ps.map V.ref) (fun i ys H'=>Same H3 H'/\∃rs:List Addr,ys=rs.map V.ref/\H' acc2=some (.lst ys)/\rs.length<=i/\Paired (fun r (b:List Nat)=>H3 r=some (.lst (nl b))) rs ((bts.take i).filter fun b=>!GD.roomB (aQ ds) (soN ds) (uN us) dn b ms)) ⟨Same.upd hacc2,zAF ([]) rfl ac (zq0 _) .nil⟩ (fun i ys H' _ h=>SqL.of (h.1 _ _ hc)) ?_ ?_
  ·rintro i x ys H' os hx ho ⟨sm,rs,rfl,e1,lrs,hrs⟩;rw [cn] at hx;obtain ⟨bp,hbp,rfl⟩:=zq32.mp hx;obtain ⟨bt,hbt,hpb⟩:=Paired.get hps hbp;obtain ⟨hi,ei⟩:=zq10.mp hbt;obtain ⟨b1,b2⟩:=hbs' bt (zq9 hbt)
   match os,ho with
   | [o],_=>
    rwa [rQ];have s5:=s4.trans sm;refine ⟨zn ([some (.ref bp)]) rfl rfl,bq (s5 _ _ hob) rfl (zAS ds us dn bt ms (zBG (L.same s5) (s5.seqT hD) (SqL.of (sm _ _ hpb)) (SqL.of (sm _ _ hm3)) b1 Jy hmm Jy fun H5 s6=>zn _ rfl ?_))⟩;have s7:=sm.trans s6;rw [eg hi,ei,uL]
    cases hroom:GD.roomB (aQ ds) (soN ds) (uN us) dn bt ms with
    |false=>
     simp only [Bool.not_false,if_true];refine zAG (s6 _ _ e1) (by rw [zq1,sizeLine_eq];omega) (s7.updM hacc2) (zAF (rs++[bp]) (by rw [cy];rfl) ac (by rw [zq4,c9];omega) ?_);rw [List.filter_cons_of_pos (by rw [hroom];rfl),List.filter_nil];exact Paired.snoc hrs hpb
    |true=>simp only [Bool.not_true,Bool.false_eq_true,if_false];refine ⟨s7,zAF rs rfl (s6 _ _ e1) Jy ?_⟩;rw [List.filter_cons_of_neg (by rw [hroom];simp),List.filter_nil,gQ];exact hrs
  ·rintro ys H' ⟨sm,rs,rfl,e1,lrs,hrs⟩;rw [zq1,lps,eE] at hrs;exact q acc2 H' (s4.trans sm) (zn rs e1 (Paired.mapP hrs fun _ _ z=>sm _ _ z))
theorem y8(T:Txt K mg t)(hw:t.pr=w.params):FnOk P w K mg base CX0 11 t.f_124 t.e_124 ["self","deeds","units"] (q9 K t.C_Layer):=by
 have G_117:=vL (P:=P) (base:=base) T hw;have G_122:=@Ez P w K mg base t T;refine T.d_124.F.ok Gc ∅ ?_;rintro cdv A outer s H vs Q E hr ⟨p,a,b,rfl,H0,dx,ds,us,s0,hp0,hp,hI,q⟩;obtain ⟨xs,hS,hds,h8,hU,h3,hpos⟩:=hI;have lx:=hds.length;refine ⟨_,
   (XSs.h
   (ai
    (bI (yqv 0 vl) (yqv 2 vl) rfl)
   (ai
    (bI (yqv 0 vl) (bS (tns:=["deed"]) (cns:=[]) (ci:=[]) rfl (CompSc.of Jw) (bc (yqv 1 vc)) (fun _=>(aC (i:=1) (show List.Nodup [(".0":Str),("deed":Str)] by decide +kernel) rfl ll (Or.inr Jw))) (fun _=>cz) (fun _=>(ax T.d_117 G_117 hr.m (aa (yqv 1 vl) ae) gl))) rfl)
   (ak
    (bI (yqv 0 vl) (wD (z0:="k") (tns:=["k"]) (cns:=["deeds"]) (ci:=[1]) rfl (CompScZ.of Jw (fun _ _=>rfl) (fun _=>rfl)) (cQ gl T.z_range (aa (aK aJ gl T.z_len PySem.boot_len (aa (yqv 1 vc) ae)) ae)) (fun _=>(aC (i:=1) (show List.Nodup [(".0":Str),("k":Str),("deeds":Str)] by decide +kernel) rfl lc (Or.inl rfl))) (fun _=>cz) (fun _=>(bS (tns:=["j"]) (cns:=["k","deeds"]) (ci:=[1,2]) rfl (CompSc.of Jw) (cQ gl T.z_range (aa (yqv 1 vc) ae)) (fun _=>(aC (i:=1) (show List.Nodup [(".0":Str),("j":Str),("k":Str),("deeds":Str)] by decide +kernel) rfl ll (Or.inr Jw))) (fun _=>cz) (fun _=>(ax T.d_122 G_122 hr.m (aa (yqv 3 vc) (aa (yqv 1 vl) (aa (yqv 2 vc) ae))) gl))))) rfl))))),?_⟩
 rw [show aP _ [V.ref p,V.ref a,V.ref b]=[some (.ref p),some (.ref a),some (.ref b)] from rfl];simp_arith! [kz,kr];refine fk hp T.c_Layer.cl T.n_Layer_units Jz ?_;rw [gA JA,qM];have s1:=s0.updM (o:=.ins t.C_Layer dx [("units",V.ref b)]) hp0;have e1:upd H p (.ins t.C_Layer dx [("units",V.ref b)]) p=some (.ins t.C_Layer dx [("units",V.ref b)]):=ac;generalize upd H p (.ins t.C_Layer dx [("units",V.ref b)])=H1 at s1 e1 ⊢;refine later ?_;simp_arith! [kz,kr];refine ⟨⟨_,s1.seq hS⟩,fun acc hacc bk=>?_⟩;refine eF (xs:=xs) (fun i ys H'=>Same H1 H'/\H' acc=some (.lst ys)/\ys=(ds.take i).map sV) (zAB (Same.upd hacc) ac Jz) (fun i ys H' _ h=>(s1.trans h.1).seq hS) ?_ ?_
 ·rintro i x ys H' os hx ho ⟨sm,e2,rfl⟩;obtain ⟨d,hd,fd,qx,rfl,hqx⟩:=Paired.get (hds.ts (s1.trans sm).ts) hx;obtain ⟨hi,ei⟩:=zq10.mp hd
  match os,ho with
  | [o],_=>rwa [kz];refine ⟨zn ([some (.ref qx)]) rfl rfl,⟨d,zAR hqx fd e2 (by rw [zq1,dS,sizeLine_eq];omega) (sm.updM hacc) ac ?_⟩⟩;rw [eg hi,ei,cy];rfl
 ·rintro ys H2 ⟨s2,e2,rfl⟩;rw [lx,eE] at e2;have fa:=s1.free hacc;refine fk (s2 _ _ e1) T.c_Layer.cl T.n_Layer_sorts Jz ?_;rw [gA Jw];have npa:acc≠p:=(am e1 hacc).symm;have s3:=(s1.trans s2).updM (o:=.ins t.C_Layer dx ([(("units":Str),V.ref b)]++[(("sorts":Str),V.ref acc)])) hp0;have e3:upd H2 p (.ins t.C_Layer dx ([(("units":Str),V.ref b)]++[(("sorts":Str),V.ref acc)])) p=some (.ins t.C_Layer dx ([(("units":Str),V.ref b)]++[(("sorts":Str),V.ref acc)])):=ac;have g3:upd H2 p (.ins t.C_Layer dx ([(("units":Str),V.ref b)]++[(("sorts":Str),V.ref acc)])) acc=some (.lst (ds.map sV)):=by rw [ao npa];exact e2
  generalize upd H2 p (.ins t.C_Layer dx ([(("units":Str),V.ref b)]++[(("sorts":Str),V.ref acc)]))=H3 at s3 e3 g3 ⊢;refine later ?_;simp_arith! [kr];refine zAF xs (.inl (s3.seq hS)) Jy Jy fun ac2 hac2 bk2=>?_;rw [jF,lx];refine oE (fun k ys H'=>Same H3 H'/\∃qs:List Addr,ys=qs.map V.ref/\H' ac2=some (.lst ys)/\qs.length=k/\∀(j:Nat)q,qs[j]?=some q->q≠ac2/\H' q=some (.lst ((List.range j).map fun i=>FB.nq (aQ ds i j)))) ⟨Same.upd hac2,zAF ([]) rfl ac rfl fun j q h=>by simp at h⟩ ?_ ?_
  ·rintro k ys H' os hk ho ⟨sm,qs,rfl,e4,lq,hqs⟩;rw [show (0:Int)+(k:Int)=(k:Int) by omega]
   match os,ho with
   | [o],_=>
    rwa [kr];refine zAG (zn ([some (.int k)]) rfl rfl) Jy Jy fun ac3 hac3 bk3=>?_;rw [jF];refine oG (fun _=>true) (fun j=>FB.nq (aQ ds j k)) (by rw [sizeLine_eq];omega) hac3 (fun j hj H4 Q' s4 h=>h H4 (Same.refl _)) (fun j hj H4 Q' s4 _ h=>?_) fun H4 s4 e5=>?_
    ·rwa [kr];have s5:=(s3.trans sm).trans s4;exact zBE xs ds j k rfl rfl (s5.seq hS) (hds.ts s5.ts) hj Jy h
    ·rw [List.filter_eq_self.mpr (fun _ _=>rfl)] at e5;refine zAG (s4 _ _ e4) (by rw [zq1,sizeLine_eq];omega) ((sm.trans s4).updM hac2) (zAF (qs++[ac3]) (by rw [cy];rfl) ac (by rw [zq4,c9];omega) fun j q hj=>?_);have n3:ac3≠ac2:=(am e4 hac3).symm
     by_cases hlt:j<qs.length
     ·rw [jE hlt] at hj;obtain ⟨z1,z2⟩:=hqs j q hj;exact ⟨z1,by rw [ao z1];exact s4 _ _ z2⟩
     ·have hjl:=(zq10.mp hj).1;rw [zq4,c9] at hjl;obtain rfl:j=qs.length:=by omega
      rw [jh (zq0 _),qL] at hj
      cases hj
      refine ⟨n3,?_⟩;rw [ao n3,lq];exact e5
  ·rintro ys H4 ⟨s4,qs,rfl,e4,lq,hqs⟩;refine fk (s4 _ _ e3) T.c_Layer.cl T.n_Layer_gaps Jz ?_;rw [gA Jw];have nac:ac2≠p:=(am e3 hac2).symm;have s5:=(s3.trans s4).updM (o:=.ins t.C_Layer dx ([(("units":Str),V.ref b)]++[(("sorts":Str),V.ref acc)]++[(("gaps":Str),V.ref ac2)])) hp0;refine q _ s5 ⟨zAW dx b acc ac2 qs ac (s5.seqT hU) ?_ ?_ lq fun k qq hk=>?_,h8,h3,hpos⟩
   ·rw [ao npa];exact s4 _ _ g3
   ·rw [ao nac];exact e4
   ·obtain ⟨z1,z2⟩:=hqs k qq hk;rw [ao (bw z2 (s4 _ _ e3) (by intro z;cases z))];exact z2
variable {H H':Hp}
def LSt(H H':Hp):Prop:=∀b xs,H b=some (.lst xs)->H' b=some (.lst xs)
theorem LSt.of(s:Same H H'):LSt H H':=fun b xs e=>s _ _ e
theorem LSt.trans{H1 H2:Hp}(a:LSt H H1)(b:LSt H1 H2):LSt H H2:=fun c xs e=>b _ _ (a _ _ e)
theorem LSt.upd{l:Addr}{o u:HO}(e:H l=some u)(hn:∀xs,u≠.lst xs):LSt H (upd H l o):=fun b xs eb=>by rw [ao (bw eb e (fun z=>hn xs z.symm))];exact eb
theorem LLN.lst{c:Addr}{bts:List (List Nat)}(s:LSt H H')(h:LLN H c bts):LLN H' c bts:=
 let ⟨ps,e,r⟩:=h;(zn ps (s _ _ e) (Paired.mapP r fun _ _ z=>s _ _ z))
def km(ps:List Nat):List Key:=ps.map fun p:Nat=>(Sum.inl (p:Int):Key)
theorem tF{ps:List Nat}:(km ps).map kV=nl ps:=by unfold km nl;rw [jH];rfl
theorem xJ:∀{a b:List Nat},km a=km b->a=b
 | [],[],_=>rfl
 | [],_::_,h=>by cases h
 |_::_,[],h=>by cases h
 |x::a,y::b,h=>by unfold km at h;rw [d9,d9,List.cons.injEq] at h;have e:(x:Int)=(y:Int):=Sum.inl.inj h.1;rw [xJ (a:=a) (b:=b) h.2,show x=y by omega]
def WsV(H:Hp)(kvs:List (List Key×V))(ws:List (List Nat×List (List Nat))):Prop:=Paired (fun (kv:List Key×V) (w:List Nat×List (List Nat))=>kv.1=km w.1/\∃c,kv.2=.ref c/\LLN H c w.2) kvs ws
theorem WsV.lst{kvs:List (List Key×V)}{ws:List (List Nat×List (List Nat))}(s:LSt H H')(h:WsV H kvs ws):WsV H' kvs ws:=Paired.mapP h fun _ _ ⟨z1,c,z2,z3⟩=>⟨z1,zn c z2 (z3.lst s)⟩
theorem WsV.val{kvs:List (List Key×V)}{ws:List (List Nat×List (List Nat))}(h:WsV H kvs ws)(k:List Nat):(k∉ws.map (·.1)/\bE kvs (km k)=none)\/∃w∈ws,w.1=k/\∃c,bE kvs (km k)=some (.ref c)/\LLN H c w.2:=by
 unfold WsV at h
 induction h with
 |nil=>exact .inl ⟨Jz,rfl⟩
 | @cons kv w kvs ws hd tl ih=>
  obtain ⟨e1,c,e2,hl⟩:=hd
  by_cases e:w.1=k
  ·refine .inr (zAC w Jz e (zn c ?_ hl));rw [bU (by rw [e1,e]),e2]
  ·have ne:¬kv.1=km k:=fun z=>e (xJ (e1.symm.trans z));rcases ih with ⟨h1,h2⟩ | ⟨w',hw',h1,c',h2,h3⟩
   ·refine .inl ⟨?_,by rw [bO ne];exact h2⟩;rw [d9,zq5];exact fun z=>z.elim (fun z=>e z.symm) h1
   ·exact .inr (zAC w' (zq6 _ hw') h1 (zn c' (by rw [bO ne];exact h2) h3))
theorem WsV.put{kvs:List (List Key×V)}{ws:List (List Nat×List (List Nat))}(h:WsV H kvs ws){k:List Nat}{c:Addr}{bss:List (List Nat)}(hc:LLN H c bss):WsV H (kvs++[(km k,.ref c)]) (ws++[(k,bss)]):=Paired.snoc h ⟨rfl,zn c rfl hc⟩
structure RoundH(H1 H:Hp)(wa lo:Addr)(o:Obj)(kvs:List (List Key×V))(ws acc:List (List Nat×List (List Nat))):Prop where
 same:Same H1 H
 fr:H1 lo=none
 old:H wa=some (.frz o (.dT kvs))
 wsv:WsV H kvs ws
 now:∃kv2,H lo=some (.dT kv2)/\WsV H kv2 acc
theorem RoundH.mv{H1:Hp}{wa lo:Addr}{o:Obj}{kvs:List (List Key×V)}{ws acc:List (List Nat×List (List Nat))}(h:RoundH H1 H wa lo o kvs ws acc)(s:Same H H'):RoundH H1 H' wa lo o kvs ws acc:=
 ⟨h.same.trans s,h.fr,s _ _ h.old,h.wsv.lst (LSt.of s),let ⟨kv2,e,r⟩:=h.now;(zn kv2 (s _ _ e) (r.lst (LSt.of s)))⟩
theorem RoundH.put{H1 H:Hp}{wa lo:Addr}{o:Obj}{kvs kv2:List (List Key×V)}{ws acc:List (List Nat×List (List Nat))}{k:List Nat}{c:Addr}{bss:List (List Nat)}(h:RoundH H1 H wa lo o kvs ws acc)(e:H lo=some (.dT kv2))(r:WsV H kv2 acc)(hk:k∉acc.map (·.1))(hc:LLN H c bss):
  RoundH H1 (upd H lo (.dT (kv2++[(km k,.ref c)]))) wa lo o kvs ws (GD.iN acc k bss):=by
 have ls:LSt H (upd H lo (.dT (kv2++[(km k,.ref c)]))):=LSt.upd e (by intro xs z;cases z);refine ⟨h.same.updM h.fr,h.fr,?_,h.wsv.lst ls,kv2++[(km k,.ref c)],ac,?_⟩
 ·rw [ao (bw h.old e (by intro z;cases z))];exact h.old
 ·unfold GD.iN;rw [if_neg hk];exact (r.put hc).lst ls
def pY(K:W.Frag):Sp:=fun vs H Q _=>∃(a b:Addr)(ds:List FB.Deed)(us:List Int),vs=[.ref a,.ref b]/\mF K H a b ds us/\∀c r bss H',Same H H'->LLN H' c bss->(List.range ds.length,bss)∈GD.cc (aQ ds) (soN ds) (uN us) ds.length r->(∀k,k<r->List.range ds.length∉(GD.cc (aQ ds) (soN ds) (uN us) ds.length k).map (·.1))->Q (.ref c) H'
theorem yJ{ty td:TE}{σ:L2.St}{H:Hp}{Q:VK}:uA ty td σ H Q=ty σ H fun y H1=>td σ H1 fun x H2=>∃a o,x=.ref a/\DGet H2 a y o/\Q (.bl (!o.isSome)) H2:=rfl
theorem xY(T:Txt K mg t)(hw:t.pr=w.params):FnOk P w K mg base CX0 14 t.f_123 t.e_123 ["deeds","units"] (pY K):=by
 have G_124:=y8 (P:=P) (base:=base) T hw;have G_125:=@Bi P w K mg base t T;refine T.d_123.F.ok sc_123 ∅ ?_;rintro cdv A outer s H vs Q E hr ⟨a,b,ds,us,rfl,hI,q⟩;have hu:=dE hr;refine ⟨_,
   (XSs.h
   (ai
    (au (i:=2) sc_123.nd rfl ll (gK T.c_Layer T.d_124 G_124 hr.m (aa (yqv 0 vl) (aa (yqv 1 vl) ae)) gl))
   (ai
    (au (i:=3) sc_123.nd rfl ll (sv rfl T.z_tuple T.z_range (aa (aK aJ gl T.z_len PySem.boot_len (aa (yqv 0 vl) ae)) ae) gl gl))
   (ai
    (au (i:=4) sc_123.nd rfl ll (su hu (aI ae) (aN ae)))
   (ai
    (eZ PassesOwn.never (Ck (sr hu (yqv 3 vl) (yqv 4 vl)))
     (ai
      (au (i:=5) sc_123.nd rfl ll wF)
     (ai
      (bG PassesOwn.never rfl (sy (yqv 4 vl)) (dP rfl (aU (aC (i:=6) sc_123.nd rfl ll) (aU (aC (i:=7) sc_123.nd rfl ll) d6)))
       (ak
        (bG PassesOwn.never rfl (bc (aT T.c_Layer.cl T.d_125 G_125 hr.m (yqv 2 vl) (aa (yqv 6 vl) ae))) (aC (i:=8) sc_123.nd rfl ll)
         (ak
          (aR (cg PySem.F.plainAttrs_dict PySem.F.slot_dict_setdefault PySem.F.type_dict_setdefault (kY hu) (yqv 5 vl) (aa (ck kU gl T.z_tuple boot_tuple (aa (aK oA gl T.z_sorted boot_sorted (aa (av eN (ck dG gl T.z_list boot_list (aa (yqv 6 vl) ae)) (yqv 8 vl)) ae)) ae)) (aa (av eN (yqv 7 vl) (aN (aa (yqv 8 vl) ae))) ae))))))))
     (ak
      (au (i:=4) sc_123.nd rfl ll (yqv 5 vl))))))
   (ak
    (aw (cE hu (yqv 4 vl) (yqv 3 vl) (fun _ _=>rfl))))))))),?_⟩
 rw [show aP _ [V.ref a,V.ref b]=[some (.ref a),some (.ref b),none,none,none,none,none,none,none] from rfl];simp_arith! [BX,rO];intro ly dx hly hdx hne;refine zAK ly a b rfl (zAM H dx ds us ((Same.upd hdx).trans (Same.upd (by rw [ao hne.symm];exact hly))) hly ac hI fun H1 s1 L1=>⟨rfl,?_⟩);obtain ⟨xs,hS,hds,h8,hU,h3,hpos⟩:=hI;have lx:=hds.length;refine later ?_;simp_arith! [];refine zn xs (.inl (s1.seq hS)) (zAC ds.length (by rw [lx]) Jy fun ev hev=>?_);have s2:=s1.updN (o:=.tup ((List.range ds.length).map fun i:Nat=>V.int i)) hev;have L2:=L1.same (Same.upd (o:=.tup ((List.range ds.length).map fun i:Nat=>V.int i)) hev);have e2:upd H1 ev (.tup ((List.range ds.length).map fun i:Nat=>V.int i)) ev=some (.tup (nl (List.range ds.length))):=ac;generalize upd H1 ev (.tup ((List.range ds.length).map fun i:Nat=>V.int i))=H2 at s2 L2 e2 ⊢;refine later ?_;simp_arith! [];intro wa hwa tp htp li hli;have eW:=((Same.upd (o:=.tup []) htp).trans (Same.upd (o:=.lst []) hli)) wa _ ac;refine ⟨eW,zAA tp ([]) rfl (Same.upd hli _ _ ac) ?_⟩;have s3:Same H2 (upd (upd (upd (upd H2 wa (.dT [])) tp (.tup [])) li (.lst [])) wa (.dT [([],.ref li)])):=((Same.upd hwa).trans ((Same.upd htp).trans (Same.upd hli))).updM hwa;have e3:upd (upd (upd (upd H2 wa (.dT [])) tp (.tup [])) li (.lst [])) wa (.dT [([],.ref li)]) wa=some (.dT [([],.ref li)]):=ac;have w3:WsV (upd (upd (upd (upd H2 wa (.dT [])) tp (.tup [])) li (.lst [])) wa (.dT [([],.ref li)])) [([],.ref li)] (GD.cc (aQ ds) (soN ds) (uN us) ds.length 0):=
  .cons ⟨rfl,zn li rfl (zn ([]) (by rw [ao (am (Same.upd htp _ _ ac) hli).symm];exact ac) .nil)⟩ .nil
 generalize upd (upd (upd (upd H2 wa (.dT [])) tp (.tup [])) li (.lst [])) wa (.dT [([],.ref li)])=H3 at s3 e3 w3 ⊢;refine later ?_;simp_arith! [];have hpos2:=L2.pos;obtain ⟨n,hn⟩:∃n,n=ds.length:=⟨_,rfl⟩
 rw [<- hn] at e2 w3 q h8;obtain ⟨dx2,ub,sb,gb,qs,hob,_⟩:=L2.ob;refine ⟨fun m σ H'=>∃(r:Nat)(wa:Addr)(kvs:List (List Key×V)) (o5 o6 o7 o8:Option V),m=n-r/\σ=[some (.ref a),some (.ref b),some (.ref ly),some (.ref ev),some (.ref wa),o5,o6,o7,o8]/\Same H2 H'/\H2 wa=none/\H' wa=some (.dT kvs)/\WsV H' kvs (GD.cc (aQ ds) (soN ds) (uN us) n r)/\∀k,k<r->List.range n∉(GD.cc (aQ ds) (soN ds) (uN us) n k).map (·.1),
  (zAY _ 0 wa _ none none none none (zAR rfl rfl s3 hwa e3 w3 fun k hk=>absurd hk Jy)),?_⟩
 rintro m σ H4 ⟨r,wb,kvs,o5,o6,o7,o8,rfl,rfl,s4,hwb,e4,w4,hno⟩;simp_arith! [yJ];refine zAA wb _ rfl (DGet.t (k:=km (List.range n)) e4 (by rw [tF];exact s4 _ _ e2)) ?_;rcases w4.val (List.range n) with ⟨hk,hv⟩ | ⟨w',hw',hk',c,hv,hl⟩
 ·rw [hv,if_pos (show (!(none:Option V).isSome)=true from rfl)];have hlt:r<n:=GD.Cd hpos2 fun k hk2=>by
   by_cases e:k=r
   ·rw [e];exact hk
   ·exact hno k Jy
  refine ⟨fun σ H'=>∃(wa:Addr)(kvs:List (List Key×V)) (o5 o6 o7 o8:Option V),σ=[some (.ref a),some (.ref b),some (.ref ly),some (.ref ev),some (.ref wa),o5,o6,o7,o8]/\Same H2 H'/\H2 wa=none/\H' wa=some (.dT kvs)/\WsV H' kvs (GD.cc (aQ ds) (soN ds) (uN us) n (r+1)),?_,?_⟩
  ·rintro σ' H' ⟨wc,kv2,p5,p6,p7,p8,rfl,z1,z2,z3,z4⟩;refine zn (n-(r+1)) Jy (zBC (r+1) wc kv2 p5 p6 p7 p8 rfl rfl z1 z2 z3 z4 fun k hk2=>?_)
   by_cases e:k=r
   ·rw [e];exact hk
   ·exact hno k Jy
  intro lo hlo;refine later ?_;simp_arith! [];have sl:=Same.upd (o:=.dT []) hlo;refine zAA wb kvs rfl (sl _ _ e4) fun o=>?_;have nlw:lo≠wb:=(am e4 hlo).symm;have R0:RoundH H2 (upd (upd H4 lo (.dT [])) wb (.frz o (.dT kvs))) wb lo o kvs (GD.cc (aQ ds) (soN ds) (uN us) n r) []:=
   ⟨(s4.trans sl).updM hwb,s4.free hlo,ac,w4.lst ((LSt.of sl).trans (LSt.upd (sl _ _ e4) (by intro xs z;cases z))),[],by rw [ao nlw];exact ac,.nil⟩
  generalize upd (upd H4 lo (.dT [])) wb (.frz o (.dT kvs))=H6 at R0 ⊢;have lw:=w4.length;have wok:=GD.iT (G:=aQ ds) (so:=soN ds) (U:=uN us) (n:=n) r;have hstep:GD.cc (aQ ds) (soN ds) (uN us) n (r+1)=(GD.cc (aQ ds) (soN ds) (uN us) n r).foldl (fun acc w=>GD.eh n acc w (GD.c5 (aQ ds) (soN ds) (uN us) n w.1)) []:=rfl;rw [hstep];generalize GD.cc (aQ ds) (soN ds) (uN us) n r=ws at lw wok R0 ⊢;refine xv (fun i σ H'=>RoundH H2 H' wb lo o kvs ws ((ws.take i).foldl (fun acc w=>GD.eh n acc w (GD.c5 (aQ ds) (soN ds) (uN us) n w.1)) [])/\∃o6 o7 o8,σ=[some (.ref a),some (.ref b),some (.ref ly),some (.ref ev),some (.ref wb),some (.ref lo),o6,o7,o8]) ⟨R0,zAH _ _ _ rfl⟩ (fun i σ H' _ h=>h.1.old) ?_ ?_
  ·rintro i k v bb σ H7 p hki hb hp ⟨R,o6,o7,o8,rfl⟩;obtain ⟨w,hwi,ek,c,ev2,hlc⟩:=Paired.get R.wsv hki;subst ev2;subst ek;obtain ⟨hi,ei⟩:=zq10.mp hwi;simp_arith! [rO];refine zAC _ (SqT.of ac) rfl ?_;have sp:=Same.upd (o:=.tup [.ref bb,.ref c]) hp;have R8:=R.mv sp;have hb8:=sp _ _ hb;have hlc8:=hlc.same sp;generalize upd H7 p (.tup [.ref bb,.ref c])=H8 at R8 hb8 hlc8 ⊢;rw [tF] at hb8;simp_arith! [rO];refine bq (R8.same _ _ hob) rfl (zAN ds us w.1 (L2.same R8.same) (SqT.of hb8) fun c2 H9 s9 hl9=>?_);rw [<- hn] at hl9;obtain ⟨ps,hc2,hps⟩:=hl9;have lps:=hps.length;have R9:=R8.mv s9;have hl:=wok.lay w (zq9 hwi);obtain ⟨acc,hacc⟩:∃acc,acc=(ws.take i).foldl (fun acc w=>GD.eh n acc w (GD.c5 (aQ ds) (soN ds) (uN us) n w.1)) []:=⟨_,rfl⟩
   have eacc:(ws.take (i+1)).foldl (fun acc w=>GD.eh n acc w (GD.c5 (aQ ds) (soN ds) (uN us) n w.1)) []=GD.eh n acc w (GD.c5 (aQ ds) (soN ds) (uN us) n w.1):=by rw [eg hi,ei,qJ,hacc];rfl
   have aok:GD.WOk (aQ ds) (soN ds) (uN us) n (r+1) acc:=by rw [hacc];exact GD.WOk.step _ _ (fun x hx=>wok.lay x (wO hx)) ⟨fun x hx=>(by cases hx),Jz⟩
   rw [eacc];rw [<- hacc] at R9;have hfine:∀b∈GD.c5 (aQ ds) (soN ds) (uN us) n w.1,GD.Fine (aQ ds) (soN ds) (uN us) w.1 (GD.cq n w.1) b/\b∈GD.c5 (aQ ds) (soN ds) (uN us) n w.1:=fun b hb=>⟨GD.j5 hpos2 hb,hb⟩
   generalize hbs:GD.c5 (aQ ds) (soN ds) (uN us) n w.1=bs at hps hfine lps ⊢;refine zAC c2 rfl ⟨_,SqL.of hc2⟩ ?_;refine dk (xs:=ps.map V.ref) (fun j σ H'=>RoundH H2 H' wb lo o kvs ws (GD.eh n acc w (bs.take j))/\LSt H9 H'/\H' bb=some (.tup (nl w.1))/\∃o8,σ=[some (.ref a),some (.ref b),some (.ref ly),some (.ref ev),some (.ref wb),some (.ref lo),some (.ref bb),some (.ref c),o8]) (zAG (by simpa [GD.eh] using R9) (fun _ _ e=>e) (s9 _ _ hb8) ⟨_,rfl⟩) (fun j σ H' _ h=>SqL.of (h.2.1 _ _ hc2)) ?_ ?_
   ·rintro j x σ H10 hx ⟨R10,ls,hb10,o9,rfl⟩;rw [cn] at hx;obtain ⟨bp,hbp,rfl⟩:=zq32.mp hx;obtain ⟨bt,hbt,hpb⟩:=Paired.get hps hbp;obtain ⟨hj,ej⟩:=zq10.mp hbt;obtain ⟨hf,hff⟩:=hfine bt (zq9 hbt);rwa [];obtain ⟨kv2,elo,wlo⟩:=R10.now;have hcan:=hl.1.can;have hwl:w.1.length<=8:=by have:=hcan.len;omega
    have hbl:bt.length<=8:=by have:=hf.sub.length_le;have:=pk (n:=n) (dn:=w.1);omega
    have aok':GD.WOk (aQ ds) (soN ds) (uN us) n (r+1) (GD.eh n acc w (bs.take j)):=GD.WOk.add hl.1 hl.2 _ _ (fun b hb=>by rw [hbs];exact (hfine b (wO hb)).2) aok;have hkl:kv2.length<=256:=by rw [wlo.length];exact cL aok'.len (cL (Af Jx h8) Jx)
    obtain ⟨cs,hcc,hcs⟩:=(hlc8.same s9).lst ls;have lcs:=hcs.length;have lr:=hl.2;refine ⟨.inr (.inr (.inl ⟨rfl,.inr ⟨kv2,elo⟩⟩)),zn (nl w.1) (.inr (SqT.of hb10)) fun l1 hl1=>zAE (nl w.1) (nl bt) ac (Same.upd hl1 _ _ (ls _ _ hpb)) (by rw [fw,fw,sizeLine_eq];omega) fun l2 hl2=>?_⟩;have Sb:=(Same.upd (o:=.lst (nl w.1)) hl1).trans (Same.upd (o:=.lst (nl w.1++nl bt)) hl2);have eb:upd (upd H10 l1 (.lst (nl w.1))) l2 (.lst (nl w.1++nl bt)) l2=some (.lst (((w.1++bt).map fun p:Nat=>(p:Int)).map V.int)):=by rw [ac,jH,cy];rfl
    generalize upd (upd H10 l1 (.lst (nl w.1))) l2 (.lst (nl w.1++nl bt))=Hb at Sb eb ⊢;refine zAC _ (SqL.of eb) (by rw [zq1,zq4];omega) fun l3 ns' hl3 hperm hsort=>?_;have ens:ns'=(GD.cZ n w.1 bt).map fun p:Nat=>(p:Int):=List.Perm.eq_of_pairwise (fun x y _ _ h1 h2=>Int.le_antisymm h1 h2) hsort (List.pairwise_map.mpr ((GD.mL (n:=n) (dn:=w.1) (b:=bt)).sorted.imp fun h=>Jy)) (hperm.trans ((GD.kd hcan hf.sub).map _));subst ens;have Sc:=Sb.trans (Same.upd (o:=.lst (((GD.cZ n w.1 bt).map fun p:Nat=>(p:Int)).map V.int)) hl3);have ec:upd Hb l3 (.lst (((GD.cZ n w.1 bt).map fun p:Nat=>(p:Int)).map V.int)) l3=some (.lst (nl (GD.cZ n w.1 bt))):=by rw [ac,jH];rfl
    generalize upd Hb l3 (.lst (((GD.cZ n w.1 bt).map fun p:Nat=>(p:Int)).map V.int))=Hc at Sc ec ⊢;refine ⟨_,.inl ⟨SqL.of ec,fun l4 hl4 l5 hl5=>zAE (cs.map V.ref) ([.ref bp]) (((Sc.trans (Same.upd hl4)).trans (Same.upd hl5)) _ _ hcc) ac (by rw [zq1,c9,sizeLine_eq];omega) fun l6 hl6=>?_⟩⟩;have Se:=(Same.upd (o:=.lst [V.ref bp]) hl5).trans (Same.upd (o:=.lst (cs.map V.ref++[.ref bp])) hl6);have Sf:=(Sc.trans (Same.upd (o:=.tup (nl (GD.cZ n w.1 bt))) hl4)).trans Se;have e4':upd (upd (upd Hc l4 (.tup (nl (GD.cZ n w.1 bt)))) l5 (.lst [V.ref bp])) l6 (.lst (cs.map V.ref++[.ref bp])) l4=some (.tup (nl (GD.cZ n w.1 bt))):=Se _ _ ac;have e6:LLN (upd (upd (upd Hc l4 (.tup (nl (GD.cZ n w.1 bt)))) l5 (.lst [V.ref bp])) l6 (.lst (cs.map V.ref++[.ref bp]))) l6 (w.2++[bt]):=zn (cs++[bp]) (by rw [ac,cy];rfl) (Paired.snoc (Paired.mapP hcs fun _ _ z=>Sf _ _ z) (Sf _ _ (ls _ _ hpb)))
    generalize upd (upd (upd Hc l4 (.tup (nl (GD.cZ n w.1 bt)))) l5 (.lst [V.ref bp])) l6 (.lst (cs.map V.ref++[.ref bp]))=Hf at Sf e4' e6 ⊢;have eadd:GD.eh n acc w (bs.take (j+1))=GD.iN (GD.eh n acc w (bs.take j)) (GD.cZ n w.1 bt) (w.2++[bt]):=by rw [eg hj,ej];unfold GD.eh;rw [qJ];rfl
    rw [eadd];have R11:=R10.mv Sf;have wlo':=wlo.lst (LSt.of Sf);refine zAT kv2 (km (GD.cZ n w.1 bt)) (Sf _ _ elo) (by rw [tF];exact e4') (by rw [sizeLine_eq];omega) (fun y hy=>?_) fun hy=>?_
    ·rcases wlo'.val (GD.cZ n w.1 bt) with ⟨_,hv2⟩ | ⟨w2,hw2,hk2,_⟩
     ·rw [hy] at hv2;cases hv2
     ·unfold GD.iN;rw [if_pos (zq23.mpr ⟨w2,hw2,hk2⟩)];exact zAG R11 (ls.trans (LSt.of Sf)) (Sf _ _ hb10) ⟨_,rfl⟩
    ·rcases wlo'.val (GD.cZ n w.1 bt) with ⟨hk2,_⟩ | ⟨_,_,_,_,hv2,_⟩
     ·refine zAG (R11.put (Sf _ _ elo) wlo' hk2 e6) ((ls.trans (LSt.of Sf)).trans (LSt.upd (Sf _ _ elo) (by intro xs z;cases z))) ?_ ⟨_,rfl⟩;rw [ao (bw (Sf _ _ hb10) (Sf _ _ elo) (by intro z;cases z))];exact Sf _ _ hb10
     ·rw [hy] at hv2;cases hv2
   ·rintro σ H10 ⟨R10,ls,hb10,o9,rfl⟩;rw [zq1,lps,eE] at R10;exact ⟨R10,zAH _ _ _ rfl⟩
  ·rintro σ H7 ⟨R,o6,o7,o8,rfl⟩;rw [lw,eE] at R;refine later ?_;rwa [];obtain ⟨kv2,e7,w7⟩:=R.now;refine later ?_;rwa [];exact zBB lo kv2 _ _ _ _ (zAI rfl R.same R.fr e7 w7)
 ·rw [hv];rw [if_neg Jz];refine later ?_;rwa [];refine zAA wb _ rfl (by have z:=DGet.t (k:=km (List.range n)) e4 (by rw [tF];exact s4 _ _ e2);rw [hv] at z;exact z) ?_;exact q c r w'.2 H4 (s2.trans s4) hl (by rw [<- hk'];exact hw') hno
theorem nY{n:Nat}{w x:List Nat×List (List Nat)}:∀(bs:List (List Nat)) (acc:List (List Nat×List (List Nat))),x∈GD.eh n acc w bs->x∈acc\/∃b∈bs,x=(GD.cZ n w.1 b,w.2++[b])
 | [],_,h=>.inl h
 |b::bs,acc,h=>by
  rcases nY bs _ h with h | ⟨c,hc,e⟩
  ·rcases GD.jb h with h | h
   ·exact .inl h
   ·exact .inr (zn b Jz h)
  ·exact .inr (zn c (zq6 _ hc) e)
theorem ql{n:Nat}{G:Nat->Nat->Option Int}{so:Nat->Nat}{U:Nat->Int}{x:List Nat×List (List Nat)}:∀(ws acc:List (List Nat×List (List Nat))),x∈ws.foldl (fun acc w=>GD.eh n acc w (GD.c5 G so U n w.1)) acc->x∈acc\/∃w∈ws,∃b∈GD.c5 G so U n w.1,x=(GD.cZ n w.1 b,w.2++[b])
 | [],_,h=>.inl h
 |w::ws,acc,h=>by
  rcases ql ws _ h with h | ⟨v,hv,e⟩
  ·rcases nY _ _ h with h | ⟨b,hb,e⟩
   ·exact .inl h
   ·exact .inr (zn w Jz (zn b hb e))
  ·exact .inr (zn v (zq6 _ hv) e)
structure gR(G:Nat->Nat->Option Int)(so:Nat->Nat)(U:Nat->Int)(bss:List (List Nat))(dn:List Nat):Prop where
 ne:∀b∈bss,b≠[]
 srt:∀b∈bss,b.Pairwise (· < ·)
 perm:bss.flatten.Perm dn
 load:∀b∈bss,∀s,s<3->(GD.fO so b s:Int)<=U s
 lean:∀(i:Nat)b k,bss[i]?=some b->k∈b->∀j,j<k->∀l,G j k=some l->∃(i':Nat)(b':List Nat),bss[i']?=some b'/\j∈b'/\(i':Int)+l<=i
theorem mC{n:Nat}{G:Nat->Nat->Option Int}{so:Nat->Nat}{U:Nat->Int}(hU:∀s,s<3->0<U s)(hG:∀j k l,G j k=some l->l<=1):∀r,(∀k,k<r->List.range n∉(GD.cc G so U n k).map (·.1))->∀w∈GD.cc G so U n r,gR G so U w.2 w.1
 |0,_,w,hw=>by
  rw [GD.cc,zq2] at hw;subst hw;exact ⟨fun b h=>(by cases h),fun b h=>(by cases h),.refl _,fun b h=>(by cases h),fun i b k h=>by simp at h⟩
 |r+1,hno,w,hw=>by
  rcases ql _ _ hw with h | ⟨v,hv,b,hb,rfl⟩
  ·cases h
  have ih:=mC hU hG r (fun k hk=>hno k Jy) v hv;have hcan:=((GD.iT r).lay v hv).1.can;have hne:v.1≠List.range n:=fun e=>hno r Jy (zq23.mpr (zn v hv e));have fb:=GD.j5 hU hb;refine ⟨fun c hc=>?_,fun c hc=>?_,?_,fun c hc=>?_,fun i c k hi hk j hj l hl=>?_⟩
  ·rcases zq11.mp hc with hc | hc
   ·exact ih.ne c hc
   ·rw [zq2.mp hc];exact GD.tm hU hb (hcan.miss hne)
  ·rcases zq11.mp hc with hc | hc
   ·exact ih.srt c hc
   ·rw [zq2.mp hc];exact List.Pairwise.sublist fb.sub GD.fU
  ·rw [List.flatten_append];simp only [List.flatten_cons,List.flatten_nil,List.append_nil];exact (ih.perm.append_right b).trans (GD.kd hcan fb.sub)
  ·rcases zq11.mp hc with hc | hc
   ·exact ih.load c hc
   ·rw [zq2.mp hc];exact fb.load
  ·by_cases hlt:i<v.2.length
   ·rw [jE hlt] at hi;obtain ⟨i',b',h1,h2,h3⟩:=ih.lean i c k hi hk j hj l hl;have:=(zq10.mp h1).1;exact zAA i' b' (by rw [jE this];exact h1) h2 h3
   ·have hil:=(zq10.mp hi).1;rw [zq4,c9] at hil;obtain rfl:i=v.2.length:=by omega
    rw [jh (zq0 _),qL] at hi
    cases hi
    have z:=fb.lean k hk j hj;unfold GD.cX at z;rw [hl] at z;simp only [Bool.or_eq_true,Bool.and_eq_true,decide_eq_true_eq] at z;rcases z with z | ⟨z1,z2⟩
    ·obtain ⟨b',hb',hjb⟩:=zq84.mp (ih.perm.mem_iff.mpr z);obtain ⟨i',hi',e⟩:=List.mem_iff_getElem.mp hb';refine zAA i' b' (by rw [jE hi',zq8 hi',e]) hjb ?_;have:=hG j k l hl;omega
    ·exact zAA v.2.length b (by rw [jh (zq0 _),qL];rfl) z2 Jy
theorem Eh{ds:List FB.Deed}{j k:Nat}{l:Int}(h:aQ ds j k=some l):0<=l/\l<=1:=by
 unfold aQ at h
 split at h
 ·unfold FB.jv at h
  split at h
  ·cases h;decide
  ·split at h
   ·cases h;decide
   ·split at h
    ·cases h;decide
    ·cases h
 ·cases h
variable {i:Nat} {us:List Int}
def bW(ds:List FB.Deed)(p:Nat):FB.Deed:=ds.getD p (.tell (.word 0))
def aO(ds:List FB.Deed)(bss:List (List Nat)):List (List FB.Deed):=bss.map fun b=>b.map (bW ds)
def wrB(ds:List FB.Deed)(n:Str):Bool:=ds.any fun d=>decide (wrV d=.str n)
def eU(bs:List (List FB.Deed)):List FB.Deed:=bs.getLastD []
def jq(bs:List (List FB.Deed)):FZ.Ed->Bool
 | .choose n _ _=>wrB (eU bs) n
 |_=>false
def bV(b:FZ.Blk)(bss:List (List Nat)):List (List FB.Deed):=if (aO b.ds bss).isEmpty || jq (aO b.ds bss) b.ed then aO b.ds bss++[[]] else aO b.ds bss
def rg(fs:List Nat):FZ.Ed->FZ.Ed
 | .stop=>.stop
 | .go i=>.go (fs.getD i 0)
 | .choose n i j=>.choose n (fs.getD i 0) (fs.getD j 0)
def fF(l:List (List (List FB.Deed))):Nat:=(l.map List.length).sum
def bA(bbs:List (List (List FB.Deed))):List Nat:=(List.range bbs.length).map fun i=>fF (bbs.take i)
def fY(m:Nat)(bs:List (List FB.Deed))(ed:FZ.Ed):List FZ.Blk:=(bs.dropLast.mapIdx fun j d=>⟨d,.go (m+j+1)⟩)++[⟨eU bs,ed⟩]
def mH(fs:List Nat)(acc:List FZ.Blk)(p:FZ.Blk×List (List FB.Deed)):List FZ.Blk:=acc++fY acc.length p.2 (rg fs p.1.ed)
def jd(B:List FZ.Blk)(bbs:List (List (List FB.Deed))):List FZ.Blk:=(B.zip bbs).foldl (mH (bA bbs)) []
def eQ(us:List Int)(b:FZ.Blk)(bs:List (List FB.Deed)):Prop:=∃bss,gR (aQ b.ds) (soN b.ds) (uN us) bss (List.range b.ds.length)/\bs=bV b bss
theorem iZ{b:FZ.Blk}{bss:List (List Nat)}:bV b bss≠[]:=by
 unfold bV
 split
 ·simp
 ·next h=>intro z;rw [z] at h;exact h rfl
theorem mX{bs:List (List FB.Deed)}(h:bs≠[]):bs=bs.dropLast++[eU bs]:=by unfold eU;rw [Aq,List.getLast?_eq_some_getLast h,Option.getD_some];exact (sF h).symm
theorem mh{m:Nat}{bs:List (List FB.Deed)}{ed:FZ.Ed}(h:bs≠[]):(fY m bs ed).length=bs.length:=by unfold fY;rw [zq4,wQ,kP,c9];have:=zq47.mpr h;omega
theorem pN{m:Nat}{bs:List (List FB.Deed)}{ed:FZ.Ed}(h:bs≠[]):∀r∈fY m bs ed,r.ds∈bs:=fun r hr=>by
 unfold fY at hr;rw [mX h];rcases zq11.mp hr with hr | hr
 ·obtain ⟨j,hj,e⟩:=List.mem_mapIdx.mp hr;rw [<- e];exact jD _ (nQ _)
 ·rw [zq2.mp hr];exact dC _ (zq2.mpr rfl)
theorem pO{m:Nat}{bs:List (List FB.Deed)}{ed:FZ.Ed}(h:bs≠[]):∀r∈fY m bs ed,r.ed=ed\/∃k,r.ed=.go k/\k<m+bs.length:=fun r hr=>by
 unfold fY at hr;rcases zq11.mp hr with hr | hr
 ·obtain ⟨j,hj,e⟩:=List.mem_mapIdx.mp hr;rw [<- e];rw [kP] at hj;exact .inr (zn _ rfl Jy)
 ·rw [zq2.mp hr];exact .inl rfl
theorem eY{bbs:List (List (List FB.Deed))}{bs:List (List FB.Deed)}(h:bbs[i]?=some bs):fF (bbs.take (i+1))=fF (bbs.take i)+bs.length:=by obtain ⟨hi,e⟩:=zq10.mp h;unfold fF;rw [eg hi,e,cy,List.sum_append];simp
theorem nG{bbs:List (List (List FB.Deed))}(i:Nat):fF (bbs.take i)<=fF bbs:=by
 unfold fF
 conv=>rhs;rw [<- Am i bbs,cy,List.sum_append]
 exact nU _ _
theorem gk{bbs:List (List (List FB.Deed))}(hne:∀bs∈bbs,bs≠[])(hi:i<bbs.length):(bA bbs).getD i 0=fF (bbs.take i)/\fF (bbs.take i)<fF bbs:=by
 refine ⟨?_,?_⟩
 ·unfold bA;rw [fJ,cn,wK hi];rfl
 ·have h1:=eY (zq8 hi);have h2:=nG (bbs:=bbs) (i+1);have h3:=zq47.mpr (hne _ (nQ hi));omega
def gP(B:List FZ.Blk)(bbs:List (List (List FB.Deed)))(i:Nat):List FZ.Blk:=((B.zip bbs).take i).foldl (mH (bA bbs)) []
theorem dU{B:List FZ.Blk}{bbs:List (List (List FB.Deed))}{b:FZ.Blk}{bs:List (List FB.Deed)}(hb:B[i]?=some b)(hs:bbs[i]?=some bs):gP B bbs (i+1)=mH (bA bbs) (gP B bbs i) (b,bs):=by
 have hz:(B.zip bbs)[i]?=some (b,bs):=by rw [DX];exact ⟨hb,hs⟩
 obtain ⟨hi,e⟩:=zq10.mp hz;unfold gP;rw [eg hi,e,qJ];rfl
theorem fZ{B:List FZ.Blk}{bbs:List (List (List FB.Deed))}(hl:B.length=bbs.length):gP B bbs B.length=jd B bbs:=by unfold gP jd;rw [nT (by rw [List.length_zip];omega)]
theorem g6{B:List FZ.Blk}{bbs:List (List (List FB.Deed))}(hl:B.length=bbs.length)(hne:∀bs∈bbs,bs≠[]):∀i,i<=B.length->(gP B bbs i).length=fF (bbs.take i)
 |0,_=>rfl
 |i+1,hi=>by have hb:B[i]?=some B[i]:=zq8 Jy;have hs:bbs[i]?=some bbs[i]:=zq8 Jy;rw [dU hb hs,eY hs,mH,zq4,g6 hl hne i Jy,mh (hne _ (nQ _))]
theorem zF{ns:List Str}{w:Int}{us:List Int}{B:List FZ.Blk}{bbs:List (List (List FB.Deed))}(hl:B.length=bbs.length)(hne:∀bs∈bbs,bs≠[])(hG:FZ.iW ns w B.length B)(hd:∀(i:Nat)b bs,B[i]?=some b->bbs[i]?=some bs->∀l∈bs,l.length<=8/\∀d∈l,d∈b.ds):
  ∀i,i<=B.length->FZ.iW ns w (fF bbs) (gP B bbs i)
 |0,_=>fun r hr=>by cases hr
 |i+1,hi=>fun r hr=>by
  have hb:B[i]?=some B[i]:=zq8 Jy;have hs:bbs[i]?=some bbs[i]:=zq8 Jy;have hn:=hne _ (zq9 hs);rw [dU hb hs,mH] at hr;rcases zq11.mp hr with hr | hr
  ·exact zF (us:=us) hl hne hG hd i Jy r hr
  have hbG:=hG _ (zq9 hb);have h1:=hd i _ _ hb hs r.ds (pN hn r hr);have ht:∀k,k∈B[i].ed.tg->(bA bbs).getD k 0<fF bbs:=fun k hk=>by have hz:=gk hne (i:=k) (by have:=hbG.tg k hk;omega);rw [hz.1];exact hz.2
  refine ⟨fun d hd2=>hbG.gd d (h1.2 d hd2),h1.1,?_,?_⟩
  ·rcases pO hn r hr with e | ⟨k,e,hk⟩
   ·rw [e]
    cases he:B[i].ed with
    |stop=>intro z hz;cases hz
    |go k=>rw [he] at ht;intro z hz;rw [zq2.mp hz];exact ht k (by simp [FZ.Ed.tg])
    |choose n k j=>
     rw [he] at ht;intro z hz;have hz':z∈[(bA bbs).getD k 0,(bA bbs).getD j 0]:=hz;rcases zq5.mp hz' with y | y
     ·rw [y];exact ht k (by simp [FZ.Ed.tg])
     ·rw [zq2.mp y];exact ht j (by simp [FZ.Ed.tg])
   ·rw [e];intro z hz;rw [zq2.mp hz];rw [g6 hl hne i Jy] at hk;have h2:=eY hs;have h3:=nG (bbs:=bbs) (i+1);omega
  ·intro n k j e2;rcases pO hn r hr with e | ⟨k',e,_⟩
   ·rw [e] at e2
    cases he:B[i].ed with
    |stop=>rw [he] at e2;cases e2
    |go k=>rw [he] at e2;cases e2
    |choose n' k' j'=>rw [he] at e2;cases e2;exact hbG.nm n k' j' he
   ·rw [e] at e2;cases e2
theorem uD{B:List FZ.Blk}{bbs:List (List (List FB.Deed))}(hl:B.length=bbs.length)(hne:∀bs∈bbs,bs≠[]){Z:List FB.Deed->Prop}(hz:∀bs∈bbs,∀l∈bs,Z l):∀i,i<=B.length->∀r∈gP B bbs i,Z r.ds
 |0,_=>fun r hr=>by cases hr
 |i+1,hi=>fun r hr=>by
  have hb:B[i]?=some B[i]:=zq8 Jy;have hs:bbs[i]?=some bbs[i]:=zq8 Jy;rw [dU hb hs,mH] at hr;rcases zq11.mp hr with hr | hr
  ·exact uD hl hne hz i Jy r hr
  ·exact hz _ (zq9 hs) _ (pN (hne _ (zq9 hs)) r hr)
structure BeatP(us:List Int)(l:List FB.Deed):Prop where
 one:l.Pairwise fun d e=>¬(d.tells=true/\e.tells=true)/\∀n∈d.writes,n∉e.writes
 load:∀s,s<3->((l.countP fun d=>decide (cK d=s)):Int)<=uN us s
theorem BeatP.nil(h:∀s,s<3->0<=uN us s):BeatP us []:=⟨.nil,fun s hs=>h s hs⟩
theorem fR:∀{bss:List (List Nat)} {i i':Nat} {b b':List Nat} {j:Nat},bss.flatten.Nodup->bss[i]?=some b->bss[i']?=some b'->j∈b->j∈b'->i=i'
 | [],i,i',b,b',j,_,h,_,_,_=>by simp at h
 |c::r,i,i',b,b',j,nd,h,h',m,m'=>by
  rw [Ar,zq59] at nd
  match i,i',h,h' with
  |0,0,_,_=>rfl
  |0,k+1,h,h'=>
   cases h
   exact absurd rfl (nd.2.2 j m j (zq84.mpr (zn b' (zq9 h') m')))
  |k+1,0,h,h'=>
   cases h'
   exact absurd rfl (nd.2.2 j m' j (zq84.mpr (zn b (zq9 h) m)))
  |k+1,k'+1,h,h'=>rw [fR nd.2.1 h h' m m']
theorem eT{ds:List FB.Deed}{bss:List (List Nat)}(h:gR (aQ ds) (soN ds) (uN us) bss (List.range ds.length)):∀b∈bss,BeatP us (b.map (bW ds))/\b.length<=ds.length/\∀p∈b,p<ds.length:=fun b hb=>by
 have nd:bss.flatten.Nodup:=h.perm.nodup_iff.mpr AG;have lt:∀p∈b,p<ds.length:=fun p hp=>zq40.mp (h.perm.mem_iff.mp (zq84.mpr (zn b hb hp)));obtain ⟨i,hi⟩:=zq61.mp hb;refine zAB ⟨?_,fun s hs=>?_⟩ ?_ lt
 ·rw [List.pairwise_map];refine List.Pairwise.imp_of_mem (fun {j k} hj hk hjk=>?_) (h.srt b hb);have no:aQ ds j k≠some 1:=fun e=>by obtain ⟨i',b',h1,h2,h3⟩:=h.lean i b k hi hk j hjk 1 e;have:=fR nd hi h1 hj h2;omega
  have e1:ds[j]?=some (bW ds j):=by unfold bW;rw [fJ,zq8 (lt j hj)];rfl
  have e2:ds[k]?=some (bW ds k):=by unfold bW;rw [fJ,zq8 (lt k hk)];rfl
  unfold aQ at no;rw [e1,e2] at no;dsimp only at no;unfold FB.jv at no;refine ⟨fun z=>?_,fun n hn hn2=>?_⟩
  ·rw [if_pos z] at no;exact no rfl
  ·split at no
   ·exact no rfl
   ·rw [if_pos ⟨n,hn,.inr hn2⟩] at no;exact no rfl
 ·have z:=h.load b hb s hs;unfold GD.fO at z;rw [List.countP_map];exact z
 ·have z:=h.perm.length_eq;rw [fc] at z;have:=(List.sublist_flatten_of_mem hb).length_le;omega
theorem cO{b:FZ.Blk}{bs:List (List FB.Deed)}(hu:∀s,s<3->0<=uN us s)(h8:b.ds.length<=8)(h:eQ us b bs):bs≠[]/\∀l∈bs,BeatP us l/\l.length<=8/\∀d∈l,d∈b.ds:=by
 obtain ⟨bss,hg,rfl⟩:=h;refine ⟨iZ,fun l hl=>?_⟩;have old:l∈aO b.ds bss->BeatP us l/\l.length<=8/\∀d∈l,d∈b.ds:=fun hl=>by obtain ⟨c,hc,rfl⟩:=zq23.mp hl;obtain ⟨h1,h2,h3⟩:=eT hg c hc;refine zAB h1 (by rw [zq1];omega) fun d hd=>?_;obtain ⟨p,hp,rfl⟩:=zq23.mp hd;unfold bW;rw [fJ,zq8 (h3 p hp)];exact nQ _
 unfold bV at hl
 split at hl
 ·rcases zq11.mp hl with hl | hl
  ·exact old hl
  ·rw [zq2.mp hl];exact zAB (BeatP.nil hu) (cm _) fun d hd=>by cases hd
 ·exact old hl
def eC(l:List FB.Deed):List Str:=l.flatMap FB.Deed.writes
def bfB(us:List Int)(l:List FB.Deed):Bool:=decide ((dJ (eC l)).length=(eC l).length)&&decide (l.length<=(eC l).length+1)&&(List.range 3).all fun s=>decide (((l.countP fun d=>decide (cK d=s)):Int)<=uN us s)
theorem zQ{d:FB.Deed}:d.writes.length=if d.tells then 0 else 1:=by cases d<;>rfl
theorem zR:∀{l:List FB.Deed},(l.Pairwise fun d e=>¬(d.tells=true/\e.tells=true)/\∀n∈d.writes,n∉e.writes)->(eC l).Nodup/\l.length<=(eC l).length+1/\((∀d∈l,d.tells=false)->(eC l).length=l.length)
 | [],_=>zAB Ay (cm _) fun _=>rfl
 |d::l,h=>by
  rw [uQ] at h;obtain ⟨h1,h2,h3⟩:=zR h.2;have e:eC (d::l)=d.writes++eC l:=rfl;rw [e,zq4,cJ,zQ];refine zAB (zq59.mpr (zAB (by cases d<;>simp [FB.Deed.writes]) h1 fun a ha b hb ab=>?_)) ?_ fun z=>?_
  ·subst ab;obtain ⟨c,hc,hac⟩:=zq74.mp hb;exact (h.1 c hc).2 a ha hac
  ·split
   ·next ht=>
    have:=h3 fun c hc=>by
     cases hct:c.tells with
     |false=>rfl
     |true=>exact absurd ⟨ht,hct⟩ (h.1 c hc).1
    omega
   ·omega
  ·rw [if_neg (by rw [z d Jz];decide),h3 fun c hc=>z c (zq6 _ hc)];omega
theorem BeatP.bf{l:List FB.Deed}(h:BeatP us l):bfB us l=true:=by obtain ⟨h1,h2,_⟩:=zR h.one;unfold bfB;rw [decide_eq_true ((md _).2.2.mpr h1),decide_eq_true h2,AA,AA,zq36];exact fun s hs=>decide_eq_true (h.load s (zq40.mp hs))
def xb(K:W.Frag)(e f:Addr)(H:Hp)(Q:VK):Prop:=∃(ed:FZ.Ed)(fs:List Nat),H e=some (.tup (fj ed))/\SqL K H f (nl fs)/\(∀i∈ed.tg,i<fs.length)/\∀e' H',Same H H'->H' e'=some (.tup (fj (rg fs ed)))->Q (.ref e') H'
def zq(K:W.Frag):Sp:=fun vs H Q _=>∃e f:Addr,vs=[.ref e,.ref f]/\xb K e f H Q
def sR(K:W.Frag)(a:Addr)(n:Str)(H:Hp)(Q:VK):Prop:=∃(xs:List V)(ds:List FB.Deed),SqL K H a xs/\Paired (DeedV1 K H) xs ds/\ds.length<=1000/\∀H',Same H H'->Q (.bl (wrB ds n)) H'
def uz(K:W.Frag):Sp:=fun vs H Q _=>∃(a:Addr)(n:Str),vs=[.ref a,.str n]/\sR K a n H Q
section
variable {K:W.Frag} {te:TE} {ci:List Nat} {σ:L2.St} {acc:Addr} {Q:Hp->Prop} {H1:Hp} {a:Addr} {xs:List V}
theorem sS(fs:List V)(hz:xs.length<=sizeLine)(hlen:xs.length=fs.length)(hl:SqL K H1 a xs)(hacc:H1 acc=none)
  (hf:∀(i:Nat)x y,xs[i]?=some x->fs[i]?=some y->∀H Q',Same H1 H->(∀H',Same H H'->Q' y H')->te (aL [some x] ci σ) H Q')
  (q:∀H,Same H1 H->H acc=some (.lst fs)->Q H):ce (Itl K a) (bD 1) gO te 1 ci σ acc Q (upd H1 acc (.lst [])):=by
 refine eF (fun i ys H=>ys=fs.take i/\Same H1 H/\H acc=some (.lst ys)) (zAB Jz (Same.upd hacc) ac) (fun i ys H _ h=>h.2.1.seq hl) ?_ ?_
 ·rintro i x ys H os hi ho ⟨rfl,sm,ha⟩;have hi':i<fs.length:=by have:=(zq10.mp hi).1;omega
  have e:(aL os ci σ).set 1 (some x)=aL [some x] ci σ:=by
   match os,ho with
   | [o],_=>rfl
  show (∃os',os'.length=1/\(aL os ci σ).set 1 (some x)=aL os' ci σ)/\gO ((aL os ci σ).set 1 (some x)) H _;rw [e];refine ⟨zn ([some x]) rfl rfl,?_⟩;unfold gO;dsimp only;rw [if_pos rfl];exact hf i x fs[i] hi (zq8 hi') _ _ sm fun H3 s3=>zAI (s3 _ _ ha) (by rw [dS];omega) (eg hi').symm ((sm.trans s3).updM hacc) ac
 ·rintro ys H ⟨rfl,sm,ha⟩;rw [hlen,eE] at ha;exact q H sm ha
end
theorem tZ{e f:Addr}{H:Hp}{Q:VK}{E:XK}:zq K [.ref e,.ref f] H Q E=xb K e f H Q:=propext ⟨by rintro ⟨_,_,e,q⟩;cases e;exact q,fun q=>zAD _ _ rfl q⟩
theorem z8{a:Addr}{n:Str}{H:Hp}{Q:VK}{E:XK}:uz K [.ref a,.str n] H Q E=sR K a n H Q:=propext ⟨by rintro ⟨_,_,e,q⟩;cases e;exact q,fun q=>zAD _ _ rfl q⟩
theorem nh{fs:List Nat}{i:Nat}(h:i<fs.length):(nl fs)[i]?=some (V.int (fs.getD i 0)):=by unfold nl;rw [cn,fJ,zq8 h];rfl
theorem EB(T:Txt K mg t):FnOk P w K mg base CX0 1 t.f_121 t.e_121 ["ending","places"] (zq K):=by
 refine T.d_121.F.ok Gb ∅ ?_;rintro cdv A outer s H vs Q E hr ⟨e,f,rfl,ed,fs,he,hf,ht,q⟩;refine ⟨_,
   (XSs.h
   (ai
    (aG (ap aZ (aq az (yqv 0 vl) aj) aF (aA _))
     (ak
      (aw (aI (aa aF (aa (aq b7 (yqv 1 vl) (aq az (yqv 0 vl) aj)) ae)))))
     aD)
   (ai
    (aG (ap aZ (aq az (yqv 0 vl) aj) aF (aA _))
     (ak
      (aw (aI (aa aF (aa (aq az (yqv 0 vl) aj) (aa (aq b7 (yqv 1 vl) (aq az (yqv 0 vl) aj)) (aa (aq b7 (yqv 1 vl) (aq az (yqv 0 vl) aj)) ae)))))))
     aD)
   (ak
    (aw (yqv 0 vl)))))),?_⟩
 rw [show aP _ [V.ref e,V.ref f]=[some (.ref e),some (.ref f)] from rfl];rwa []
 cases ed with
 |stop=>
  refine zAE _ _ (SqT.of he) rfl rfl (zn _ rfl ?_);rw [if_neg Jv];refine zAE _ _ (SqT.of he) rfl rfl (zn _ rfl ?_);rw [if_neg Jv];exact q e H (Same.refl H) he
 |go i=>
  refine zAE _ _ (SqT.of he) rfl rfl (zn _ rfl ?_);rw [if_pos Jv];exact zAA _ _ (SqT.of he) rfl (ixL hf (nh (ht i (by simp [FZ.Ed.tg]))) fun p hp=>q p _ (Same.upd hp) ac)
 |choose n i j=>refine zAE _ _ (SqT.of he) rfl rfl (zn _ rfl ?_);rw [if_neg Jv];refine zAE _ _ (SqT.of he) rfl rfl (zn _ rfl ?_);rw [if_pos Jv];exact zAA _ _ (SqT.of he) rfl (zAA _ _ (SqT.of he) rfl (ixL hf (nh (ht i (by simp [FZ.Ed.tg]))) (zAA _ _ (SqT.of he) rfl (ixL hf (nh (ht j (by simp [FZ.Ed.tg]))) fun p hp=>q p _ (Same.upd hp) ac))))
theorem Bu(T:Txt K mg t):FnOk P w K mg base CX0 2 t.f_139 t.e_139 ["deeds","name"] (uz K):=by
 have G_116:=@fz P w K mg base t T;refine T.d_139.F.ok Gi ∅ ?_;rintro cdv A outer s H vs Q E hr ⟨a,n,rfl,xs,ds,ha,hd,hl,q⟩;refine ⟨_,
   (XSs.h
   (ak
    (aw (aK (oy rfl) gl T.z_any boot_any (aa (bS (tns:=["deed"]) (cns:=["name"]) (ci:=[1]) rfl (CompSc.of Jw) (bc (yqv 0 vl)) (fun _=>(aC (i:=1) (show List.Nodup [(".0":Str),("deed":Str),("name":Str)] by decide +kernel) rfl ll (Or.inr Jw))) (fun _=>cz) (fun _=>(bP aZ (ax T.d_116 G_116 hr.m (aa (yqv 1 vl) ae) gl) (yqv 2 vc) (aA _)))) ae))))),?_⟩
 rw [show aP _ [V.ref a,V.str n]=[some (.ref a),some (.str n)] from rfl];rwa [cU];have lx:=hd.length;refine ⟨⟨_,ha⟩,fun acc hacc bk=>?_⟩;refine sS (ds.map fun d=>V.bl (decide (wrV d=.str n))) (by rw [sizeLine_eq];omega) (by rw [zq1];exact lx) ha hacc (fun i x y hx hy H2 Q' s2 h=>?_) fun H2 s2 e2=>?_
 ·obtain ⟨d,hd1,q0,rfl,hq0,hf⟩:=Paired.get hd hx;rw [cn,hd1] at hy
  cases hy
  rwa [cU];refine zAF d (s2.seqT hq0) hf ?_ (h H2 (Same.refl H2))
  cases d<;>rfl
 ·refine zn (ds.map fun d=>decide (wrV d=.str n)) (SqL.of (by rw [jH];exact e2)) ?_;rw [Ap];exact q H2 s2
def BtsV(K:W.Frag)(N:Addr->Prop)(H:Hp)(c:Addr)(bs:List (List FB.Deed)):Prop:=∃ps:List Addr,H c=some (.lst (ps.map V.ref))/\Paired (fun p (l:List FB.Deed)=>N p/\∃vs,H p=some (.lst vs)/\Paired (DeedV1 K H) vs l) ps bs
structure GJ(K:W.Frag)(H:Hp)(q u:Addr)(b:FZ.Blk)(us:List Int):Prop where
 ex:∃a e vs,H q=some (.tup [.ref a,.ref e])/\H a=some (.lst vs)/\Paired (DeedV1 K H) vs b.ds/\H e=some (.tup (fj b.ed))
 h8:b.ds.length<=8
 ut:SqT K H u (us.map V.int)
 h3:us.length=3
 hp:∀x∈us,0<x/\x<=3
def o1(K:W.Frag)(q u:Addr)(H:Hp)(Q:VK):Prop:=∃(b:FZ.Blk)(us:List Int),GJ K H q u b us/\∀c bs H',Same H H'->H c=none->eQ us b bs->BtsV K (fun p=>H p=none) H' c bs->Q (.ref c) H'
def pV(K:W.Frag):Sp:=fun vs H Q _=>∃q u:Addr,vs=[.ref q,.ref u]/\o1 K q u H Q
theorem tW{q u:Addr}{H:Hp}{Q:VK}{E:XK}:pV K [.ref q,.ref u] H Q E=o1 K q u H Q:=propext ⟨by rintro ⟨_,_,e,q⟩;cases e;exact q,fun q=>zAD _ _ rfl q⟩
theorem tY{a b:Addr}{H:Hp}{Q:VK}{E:XK}:pY K [.ref a,.ref b] H Q E=∃(ds:List FB.Deed)(us:List Int),mF K H a b ds us/\∀c r bss H',Same H H'->LLN H' c bss->(List.range ds.length,bss)∈GD.cc (aQ ds) (soN ds) (uN us) ds.length r->(∀k,k<r->List.range ds.length∉(GD.cc (aQ ds) (soN ds) (uN us) ds.length k).map (·.1))->Q (.ref c) H':=propext ⟨by rintro ⟨_,_,ds,us,e,q⟩;cases e;exact zAJ ds us q,fun ⟨ds,us,q⟩=>zAP _ _ ds us rfl q⟩
theorem nJ{us:List Int}(h3:us.length=3)(hp:∀x∈us,0<x/\x<=3):∀s,s<3->0<uN us s:=fun s hs=>by unfold uN;rw [fJ,zq8 Jy];exact (hp _ (nQ _)).1
theorem oY{G:Nat->Nat->Option Int}{so:Nat->Nat}{U:Nat->Int}{bss:List (List Nat)}{dn:List Nat}(h:gR G so U bss dn):bss.length<=dn.length:=by
 have z:=h.perm.length_eq;have g:∀l:List (List Nat),(∀b∈l,b≠[])->l.length<=l.flatten.length:=fun l=>by
  induction l with
  |nil=>intro _;exact cm _
  |cons b l ih=>intro hl;have h1:=ih fun c hc=>hl c (zq6 _ hc);have h2:=zq47.mpr (hl b Jz);rw [Ar,zq4,cJ];omega
 have:=g bss h.ne;omega
theorem xW(T:Txt K mg t)(hw:t.pr=w.params):FnOk P w K mg base CX0 15 t.f_138 t.e_138 ["block","units"] (pV K):=by
 have G_123:=@xY P w K mg base t T hw;have G_139:=@Bu P w K mg base t T;refine T.d_138.F.ok sc_138 ∅ ?_;rintro cdv A outer s H vs Q E hr ⟨q,u,rfl,b,us,hB,qk⟩;have hu:=dE hr;refine ⟨_,
   (XSs.h
   (ai
    (au (i:=2) sc_138.nd rfl lc (aq az (yqv 0 vl) aj))
   (ai
    (au (i:=3) sc_138.nd rfl ll (aq az (yqv 0 vl) aj))
   (ai
    (eJ (i:=4) sc_138.nd rfl ll rfl Jw (tns:=["beat"]) (cns:=["deeds"]) (ci:=[2]) rfl (CompSc.of Jw) (bc (ax T.d_123 G_123 hr.m (aa (yqv 2 vc) (aa (yqv 1 vl) ae)) gl)) (fun _=>(aC (i:=1) (show List.Nodup [(".0":Str),("beat":Str),("deeds":Str)] by decide +kernel) rfl ll (Or.inr Jw))) (fun _=>cz) (fun _=>(bS (tns:=["place"]) (cns:=["deeds"]) (ci:=[2]) rfl (CompSc.of Jw) (bc (yqv 1 vl)) (fun _=>(aC (i:=1) (show List.Nodup [(".0":Str),("place":Str),("deeds":Str)] by decide +kernel) rfl ll (Or.inr Jw))) (fun _=>cz) (fun _=>(aq b7 (yqv 2 vc) (yqv 1 vl))))))
   (ai
    (aG (cw (ii (ap (rD (n:=0) (xC Jx hr)) (yqv 4 vl) (aN ae) (aA _)) (gJ (cw (cI (ap aZ (aq az (yqv 3 vl) aj) aF (aA _)) (cr (cj (ax T.d_139 G_139 hr.m (aa (aq b7 (yqv 4 vl) (g7 eL aj)) (aa (aq az (yqv 3 vl) aj) ae)) gl))))))))
     (ak
      (aR (cg PySem.F.plainAttrs_list PySem.F.slot_list_append PySem.F.type_list_append bg (yqv 4 vl) (aa (aN ae) ae))))
     aD)
   (ak
    (aw (yqv 4 vl)))))))),?_⟩
 rw [show aP _ [V.ref q,V.ref u]=[some (.ref q),some (.ref u),none,none,none] from rfl];simp_arith! [tY,z8];obtain ⟨a,e,vs,hq,ha,hvs,he⟩:=hB.ex;have hds:DeedsV K H vs b.ds:=FL.Paired.imp hvs fun x _ d _ ⟨q0,e1,z1,z2⟩=>⟨z2,zn q0 e1 z1⟩
 have lvs:=hvs.length;have h8:=hB.h8;refine zAA _ _ (SqT.of hq) rfl ?_;refine later ?_;simp_arith! [];refine zAA _ _ (SqT.of hq) rfl ?_;refine later ?_;simp_arith! [tY];refine zAD b.ds us ⟨vs,zAQ (SqL.of ha) hds h8 hB.ut hB.h3 hB.hp⟩ fun c r bss H1 s1 hL hmem hno=>?_;have hg:=mC (nJ hB.h3 hB.hp) (fun j k l hl=>(Eh hl).2) r hno _ hmem;obtain ⟨ps,hc,hps⟩:=hL;have lps:=hps.length;have lb:bss.length<=b.ds.length:=by have z:=oY hg;rwa [fc] at z
 have lbd:(aO b.ds bss).length=bss.length:=by unfold aO;rw [zq1]
 refine ⟨⟨_,SqL.of hc⟩,fun acc hacc bk=>?_⟩;refine eF (xs:=ps.map V.ref) (fun i ys H'=>Same H1 H'/\H' acc=some (.lst ys)/\∃rs:List Addr,ys=rs.map V.ref/\Paired (fun p (l:List FB.Deed)=>H1 p=none/\p≠acc/\∃vs,H' p=some (.lst vs)/\Paired (DeedV1 K H') vs l) rs ((aO b.ds bss).take i)) (zAB (Same.upd hacc) ac (zn ([]) rfl .nil)) (fun i ys H' _ h=>SqL.of (h.1 _ _ hc)) ?_ ?_
 ·rintro i x ys H2 os hi ho ⟨s2,ha2,rs,rfl,hrs⟩;rw [cn] at hi;obtain ⟨p,hp,rfl⟩:=zq32.mp hi;obtain ⟨bt,hbt,hpb⟩:=Paired.get hps hp;obtain ⟨_,_,hlt⟩:=eT hg bt (zq9 hbt);have eb:(aL os [2] [some (V.ref q),some (V.ref u),some (V.ref a),some (V.ref e),none]).set 1 (some (V.ref p))=aL [some (V.ref p)] [2] [some (V.ref q),some (V.ref u),some (V.ref a),some (V.ref e),none]:=by
   match os,ho with
   | [o],_=>rfl
  show (∃os',os'.length=1/\(aL os [2] [some (V.ref q),some (V.ref u),some (V.ref a),some (V.ref e),none]).set 1 (some (V.ref p))=aL os' [2] _)/\gO ((aL os [2] _).set 1 (some (V.ref p))) H2 _;rw [eb];refine ⟨zn ([some (V.ref p)]) rfl rfl,?_⟩;unfold gO;dsimp only;rw [if_pos rfl];rwa [];refine ⟨⟨_,SqL.of (s2 _ _ hpb)⟩,fun a2 ha2n bk2=>?_⟩;refine sS (bt.map fun p=>vs.getD p .non) (by rw [fw,sizeLine_eq];have:=eT hg bt (zq9 hbt);omega) (by rw [fw,zq1]) (SqL.of (s2 _ _ hpb)) ha2n (fun j x y hx hy H3 Q' s3 h=>?_) fun H3 s3 e3=>?_
  ·rw [cn] at hy;obtain ⟨pl,hpl,rfl⟩:=zq32.mp hy;rw [Hi hpl] at hx
   cases hx
   rwa [];have hpv:=hlt pl (zq9 hpl);refine zAA _ _ (SqL.of (s3 _ _ (s2 _ _ (s1 _ _ ha)))) (cf (j:=pl) (v:=vs.getD pl .non) (by rw [fJ,zq8 Jy];rfl)) (h H3 (Same.refl H3))
  have na:a2≠acc:=am ha2 ha2n |>.symm
  have s13:=s2.trans s3;have lr:=hrs.length;have e3a:=s3 _ _ ha2;have sf:Same H1 (upd H3 acc (.lst (List.map V.ref rs++[V.ref a2]))):=s13.updM hacc;have tf:TSame H3 (upd H3 acc (.lst (List.map V.ref rs++[V.ref a2]))):=TSame.updL e3a;rw [dS] at lr;refine zAI e3a (by rw [zq1,sizeLine_eq];omega) sf ac (zn (rs++[a2]) (by rw [cy];rfl) ?_);have et:(aO b.ds bss).take (i+1)=(aO b.ds bss).take i++[bt.map (bW b.ds)]:=by
   have hb:(aO b.ds bss)[i]?=some (bt.map (bW b.ds)):=by unfold aO;rw [cn,hbt];rfl
   obtain ⟨h1,h2⟩:=zq10.mp hb;rw [eg h1,h2]
  rw [et];refine FL.Paired.snoc ⟨s2.free ha2n,na,_,by rw [ao na];exact e3,?_⟩ (FL.Paired.imp hrs fun r0 _ l _ ⟨z1,z2,vs2,z3,z4⟩=>zAB z1 z2 (zn vs2 (by rw [ao z2];exact s3 _ _ z3) (FL.Paired.imp z4 fun _ _ _ _ z=>z.ts (s3.ts.trans tf))));refine FL.Paired.of_get (by rw [zq1,zq1]) fun j x d hx hd=>?_;rw [cn] at hx hd;obtain ⟨pl,hpl,rfl⟩:=zq32.mp hx;rw [hpl] at hd
  cases hd
  have hpv:=hlt pl (zq9 hpl);obtain ⟨d,hd,hdv⟩:=Paired.get hvs (i:=pl) (a:=vs.getD pl .non) (by rw [fJ,zq8 Jy];rfl);have ed:bW b.ds pl=d:=by unfold bW;rw [fJ,hd];rfl
  rw [ed];exact hdv.ts ((s1.trans s13).ts.trans tf)
 ·rintro ys H2 ⟨s2,ha2,rs,rfl,hrs⟩;rw [zq1,lps,nT (by unfold aO;rw [zq1];exact zq0 _)] at hrs;have s02:=s1.trans s2;refine later ?_;simp_arith! [];have fin:∀H3,Same H2 H3->∀bs,eQ us b bs->BtsV K (fun p=>H p=none) H3 acc bs->gT (zB (dh 4)) {nx:=fun x H'=>Q V.non H',rt:=Q} [some (V.ref q),some (V.ref u),some (V.ref a),some (V.ref e),some (V.ref acc)] H3:=fun H3 s3 bs hl hv=>by refine later ?_;rwa [];exact qk acc bs H3 (s02.trans s3) (s1.free hacc) hl hv
  have hv2:∀H3,Same H2 H3->BtsV K (fun p=>H p=none) H3 acc (aO b.ds bss):=fun H3 s3=>zn rs (s3 _ _ ha2) (FL.Paired.imp hrs fun r0 _ l _ ⟨z1,z2,vs2,z3,z4⟩=>⟨s1.free z1,zn vs2 (s3 _ _ z3) (FL.Paired.imp z4 fun _ _ _ _ z=>z.ts s3.ts)⟩)
  have hF:∀z,((aO b.ds bss).isEmpty || jq (aO b.ds bss) b.ed)=z->bV b bss=if z=true then aO b.ds bss++[[]] else aO b.ds bss:=fun z hz=>by unfold bV;rw [hz]
  have lrs:=hrs.length;have stay:∀H3,Same H2 H3->((aO b.ds bss).isEmpty || jq (aO b.ds bss) b.ed)=false->gT (zB (dh 4)) {nx:=fun x H'=>Q V.non H',rt:=Q} [some (V.ref q),some (V.ref u),some (V.ref a),some (V.ref e),some (V.ref acc)] H3:=fun H3 s3 hz=>fin H3 s3 _ (zn bss hg (hF _ hz).symm) (hv2 H3 s3);have grow:∀H3,Same H2 H3->((aO b.ds bss).isEmpty || jq (aO b.ds bss) b.ed)=true->tyV K "list" (V.ref acc) H3/\∀p,H3 p=none->∃xs,upd H3 p (.lst []) acc=some (.lst xs)/\xs.length<sizeLine/\
    gT (zB (dh 4)) {nx:=fun x H'=>Q V.non H',rt:=Q} [some (V.ref q),some (V.ref u),some (V.ref a),some (V.ref e),some (V.ref acc)] (upd (upd H3 p (.lst [])) acc (.lst (xs++[V.ref p]))):=fun H3 s3 hz=>by
   have e3:=s3 _ _ ha2;refine ⟨.inl ⟨rfl,_,SqL.of e3⟩,fun p hp=>?_⟩;have np:p≠acc:=(am e3 hp).symm;have t1:=Same.upd (o:=.lst []) hp;refine zAC _ (t1 _ _ e3) (by rw [zq1,sizeLine_eq];omega) ?_;have tf:TSame (upd H3 p (.lst [])) (upd (upd H3 p (.lst [])) acc (.lst (List.map V.ref rs++[V.ref p]))):=TSame.updL (t1 _ _ e3);refine later ?_;rwa [];refine qk acc (bV b bss) _ ((s02.trans (s3.trans t1)).updM (s1.free hacc)) (s1.free hacc) (zn bss hg rfl) ?_;rw [hF _ hz,if_pos rfl];refine zn (rs++[p]) (by rw [ac,cy];rfl) (FL.Paired.snoc ⟨s02.free (s3.free hp),[],by rw [ao np];exact ac,.nil⟩ (FL.Paired.imp hrs fun r0 _ l _ ⟨z1,z2,vs2,z3,z4⟩=>⟨s1.free z1,zn vs2 (by rw [ao z2];exact t1 _ _ (s3 _ _ z3)) (FL.Paired.imp z4 fun _ _ _ _ z=>z.ts ((s3.trans t1).ts.trans tf))⟩))
  intro p hp;have t1:=Same.upd (o:=.lst []) hp;refine zn _ (zi (t1 _ _ ha2) ac) (zn _ rfl (aB (fun hz=>?_) fun hz=>?_))
  ·rw [if_pos trivial];refine grow _ t1 ?_;have:aO b.ds bss=[]:=zq42.mp (by rw [<- lrs,<- zq1 (f:=V.ref),hz];rfl);rw [this];rfl
  have hbe:(aO b.ds bss).isEmpty=false:=by
   cases hbd:aO b.ds bss with
   |nil=>
    rw [hbd] at lrs;exact absurd (by rw [zq42.mp lrs];rfl) hz
   |cons _ _=>rfl
  rw [hbe,Bool.false_or] at grow stay;have he2:=t1 _ _ (s02 _ _ he)
  cases hed:b.ed with
  |stop=>
   rw [hed] at stay grow he2;refine zAE _ _ (SqT.of he2) rfl rfl (zn _ rfl ?_);rw [if_neg Jv];exact stay _ t1 rfl
  |go i=>
   rw [hed] at stay grow he2;refine zAE _ _ (SqT.of he2) rfl rfl (zn _ rfl ?_);rw [if_neg Jv];exact stay _ t1 rfl
  |choose n i j=>
   rw [hed] at stay grow he2;refine zAE _ _ (SqT.of he2) rfl rfl (zn _ rfl ?_);rw [if_pos Jv];rcases DY rs with z | ⟨rl,pl,z⟩
   ·exact absurd (by rw [z];rfl) hz
   have hpl:rs[rl.length]?=some pl:=by rw [z,wR,jh (zq0 _),qL];rfl
   obtain ⟨l,hl,_,_,vl,hvl,hdl⟩:=Paired.get hrs hpl;have el:eU (aO b.ds bss)=l:=by unfold eU;rw [Aq,DZ,<- lrs,z,wR,zq4,c9,Nat.add_sub_cancel,hl];rfl
   have hll:l.length<=8:=(cO (fun s hs=>As (nJ hB.h3 hB.hp s hs)) h8 (zn bss hg rfl)).2 l (by
    unfold bV
    split
    ·exact jD _ (zq9 hl)
    ·exact zq9 hl) |>.2.1
   refine zAA _ (.ref pl) (SqL.of (t1 _ _ ha2)) (by rw [z,wR,cy];exact fN _ _) (zAA _ _ (SqT.of he2) rfl ?_);rw [z8];refine zAE vl l (SqL.of (t1 _ _ hvl)) (FL.Paired.imp hdl fun _ _ _ _ z=>z.ts t1.ts) Jy fun H3 s3=>zn _ rfl ?_;have em:jq (aO b.ds bss) (.choose n i j)=wrB l n:=by rw [jq,el]
   rw [em] at grow stay;exact kc (fun h=>grow H3 (t1.trans s3) h) fun h=>stay H3 (t1.trans s3) h
variable {H:Hp}
theorem v7{xs:List V}:gM xs none (some (-1))=xs.dropLast:=by
 unfold gM;rw [HT.pQ,A9,AC,E1];have e:HT.sIx xs.length xs.length (some (-1))=xs.length-1:=by show (if (-1:Int)<0 then (-1+(xs.length:Int)).toNat else min (-1:Int).toNat xs.length)=_;rw [if_pos Jx];omega
 rw [e]
theorem B0{x:V}{os:List (Option V)}{ci:List Nat}{σ:L2.St}{Z Y:L2.St->Hp->Prop}(ho:os.length=1)(h:Z (aL [some x] ci σ) H):bD 1 x (aL os ci σ) H fun σ1 H1=>(∃os',os'.length=1/\σ1=aL os' ci σ)/\gO σ1 H1 fun b H2=>if b=true then Z σ1 H2 else Y σ1 H2:=by
 have e:(aL os ci σ).set 1 (some x)=aL [some x] ci σ:=by
  match os,ho with
  | [o],_=>rfl
 show (∃os',os'.length=1/\(aL os ci σ).set 1 (some x)=aL os' ci σ)/\gO ((aL os ci σ).set 1 (some x)) H _;rw [e];exact ⟨zn ([some x]) rfl rfl,by unfold gO;dsimp only;rw [if_pos rfl];exact h⟩
def om(K:W.Frag)(C:Addr)(d:Nat)(p u:Addr)(H:Hp)(Q:VK):Prop:=∃(wd:Int)(ins oth:List Str)(ss:List Stm)(a b r:Addr)(ys:List V)(g:List Addr)(us:List Int)(ns:List Str),ProgAt K C H p wd ins oth ss a b r ys g/\bJ ss<d/\3 * aY ss<300/\bK ns wd ss/\SqT K H u (us.map V.int)/\us.length=3/\(∀x∈us,0<x/\x<=3)/\
 ∀tb xs bbs H',Same H H'->H tb=none->H' tb=some (.lst xs)->Paired (eQ us) (FZ.aW ss) bbs->Paired (BlkV K (fun c=>H c=none) H' tb) xs (jd (FZ.aW ss) bbs)->Q (.ref tb) H'
def qg(K:W.Frag)(C:Addr)(d:Nat):Sp:=fun vs H Q _=>∃p u:Addr,vs=[.ref p,.ref u]/\om K C d p u H Q
theorem C0{C p u:Addr}{d:Nat}{Q:VK}{E:XK}:qg K C d [.ref p,.ref u] H Q E=om K C d p u H Q:=propext ⟨by rintro ⟨_,_,e,q⟩;cases e;exact q,fun q=>zAD _ _ rfl q⟩
theorem BtsV.mv{N N':Addr->Prop}{H':Hp}{c:Addr}{bs:List (List FB.Deed)}(h:BtsV K N H c bs)(s:Same H H')(hn:∀p,N p->N' p):BtsV K N' H' c bs:=
 let ⟨ps,e,r⟩:=h;(zn ps (s _ _ e) (FL.Paired.imp r fun p _ l _ ⟨z1,vs,z2,z3⟩=>⟨hn p z1,zn vs (s _ _ z2) (FL.Paired.imp z3 fun _ _ _ _ z=>z.ts s.ts)⟩))
theorem BtsV.updL{N:Addr->Prop}{c l:Addr}{bs:List (List FB.Deed)}{us vs:List V}(h:BtsV K N H c bs)(hl:H l=some (.lst us))(hc:c≠l)(hn:∀p,N p->p≠l):BtsV K N (upd H l (.lst vs)) c bs:=
 let ⟨ps,e,r⟩:=h;(zn ps (by rw [ao hc];exact e) (FL.Paired.imp r fun p _ l _ ⟨z1,vs,z2,z3⟩=>⟨z1,zn vs (by rw [ao (hn p z1)];exact z2) (FL.Paired.imp z3 fun _ _ _ _ z=>z.ts (TSame.updL hl))⟩))
theorem zE{N:Addr->Prop}{H:Hp}{tb q a e:Addr}{xs vs:List V}{T:List FZ.Blk}{l:List FB.Deed}{ed:FZ.Ed}(ht:H tb=some (.lst xs))(hx:Paired (BlkV K N H tb) xs T)(hq:H q=some (.tup [.ref a,.ref e]))(ha:H a=some (.lst vs))(hv:Paired (DeedV1 K H) vs l)(he:H e=some (.tup (fj ed)))(hn:a≠tb)(hN:N a):
  Paired (BlkV K N (upd H tb (.lst (xs++[.ref q]))) tb) (xs++[.ref q]) (T++[⟨l,ed⟩]):=
 FL.Paired.snoc (BlkV.sx (b:=⟨l,ed⟩) ⟨q,a,e,vs,rfl,hq,ha,hv,he,hn,hN⟩ SameX.upd ht) (FL.Paired.imp hx fun y _ c _ h=>h.sx SameX.upd ht)
theorem vz{F:Addr->List FB.Deed->Prop}{ps:List Addr}{bs:List (List FB.Deed)}(h:Paired F ps bs)(hn:bs≠[]):∃p,atI (ps.map V.ref) (-1)=some (.ref p)/\F p (eU bs):=by
 have lr:=h.length;rcases DY ps with z | ⟨rl,pl,z⟩
 ·rw [z] at lr;exact absurd (zq42.mp lr.symm) hn
 have hpl:ps[rl.length]?=some pl:=by rw [z,wR,jh (zq0 _),qL];rfl
 obtain ⟨l,hl,hf⟩:=Paired.get h hpl;have el:eU bs=l:=by unfold eU;rw [Aq,DZ,<- lr,z,wR,zq4,c9,Nat.add_sub_cancel,hl];rfl
 rw [el];exact zn pl (by rw [z,wR,cy];exact fN _ _) hf
theorem pd{us:List Int}{b:FZ.Blk}{bs:List (List FB.Deed)}(h8:b.ds.length<=8)(h:eQ us b bs):bs.length<=9:=by
 obtain ⟨bss,hg,rfl⟩:=h;have z:=oY hg;rw [fc] at z;have lbd:(aO b.ds bss).length=bss.length:=by unfold aO;rw [zq1]
 unfold bV
 split
 ·rw [zq4,c9];omega
 ·omega
theorem mz{bbs:List (List (List FB.Deed))}(h:∀bs∈bbs,bs.length<=9):fF bbs<=9 * bbs.length:=by
 induction bbs with
 |nil=>exact cm _
 |cons b l ih=>have h1:=ih fun c hc=>h c (zq6 _ hc);have h2:=h b Jz;unfold fF at h1 ⊢;rw [d9,List.sum_cons,cJ];omega
theorem ye(T:Txt K mg t)(hw:t.pr=w.params)(d:Nat):FnOk P w K mg base CX0 (3 * d+16) t.f_137 t.e_137 ["program","units"] (qg K t.C_Program d):=by
 have G_100:=@vF P w K mg base t T d;have G_138:=@xW P w K mg base t T hw;have G_121:=@EB P w K mg base t T;refine T.d_137.F.ok sc_137 ∅ ?_;rintro cdv A outer s H vs Q E hr ⟨p,u,rfl,wd,ins,oth,ss,a,b,r,ys,g,us,ns,hP,hd,hm,hgd,hU,h3,hp3,qk⟩;have hu:=dE hr;refine ⟨_,
   (XSs.h
   (ai
    (au (i:=2) sc_137.nd rfl ll (ax T.d_100 G_100 hr.m (aa (yqv 0 vl) ae) gl))
   (ai
    (eJ (i:=4) sc_137.nd rfl ll rfl Jw (tns:=["block"]) (cns:=["units"]) (ci:=[1]) rfl (CompSc.of Jw) (bc (yqv 2 vl)) (fun _=>(aC (i:=1) (show List.Nodup [(".0":Str),("block":Str),("units":Str)] by decide +kernel) rfl ll (Or.inr Jw))) (fun _=>cz) (fun _=>(ax T.d_138 G_138 hr.m (aa (yqv 1 vl) (aa (yqv 2 vc) ae)) gl)))
   (ai
    (au (i:=5) sc_137.nd rfl ll (aN ae))
   (ai
    (au (i:=6) sc_137.nd rfl ll aj)
   (c7
    (bG PassesOwn.never rfl (bc (yqv 4 vl)) (aC (i:=7) sc_137.nd rfl ll)
     (ai
      (aR (cg PySem.F.plainAttrs_list PySem.F.slot_list_append PySem.F.type_list_append bg (yqv 5 vl) (aa (yqv 6 vl) ae)))
     (ak
      (au (i:=6) sc_137.nd rfl ll (av bo (yqv 6 vl) (aK aJ gl T.z_len PySem.boot_len (aa (yqv 7 vl) ae)))))))
   (ai
    (au (i:=8) sc_137.nd rfl ll (aN ae))
   (ai
    (bG PassesOwn.never rfl (Cj T.z_zip (aa (yqv 2 vl) (aa (yqv 4 vl) ae)) gl) (dP rfl (aU (aC (i:=3) sc_137.nd rfl ll) (aU (aC (i:=7) sc_137.nd rfl ll) d6)))
     (c7
      (bG PassesOwn.never rfl (bc (df iO (yqv 7 vl) g8 (d7 (g7 eL aj)))) (aC (i:=9) sc_137.nd rfl ll)
       (ak
        (aR (cg PySem.F.plainAttrs_list PySem.F.slot_list_append PySem.F.type_list_append bg (yqv 8 vl) (aa (aI (aa (yqv 9 vl) (aa (aI (aa aF (aa (av bo (aK aJ gl T.z_len PySem.boot_len (aa (yqv 8 vl) ae)) aj) ae))) ae))) ae)))))
     (ak
      (aR (cg PySem.F.plainAttrs_list PySem.F.slot_list_append PySem.F.type_list_append bg (yqv 8 vl) (aa (aI (aa (aq b7 (yqv 7 vl) (g7 eL aj)) (aa (ax T.d_121 G_121 hr.m (aa (aq az (yqv 3 vl) aj) (aa (yqv 5 vl) ae)) gl) ae))) ae))))))
   (ak
    (aw (yqv 8 vl))))))))))),?_⟩
 rw [show aP _ [V.ref p,V.ref u]=[some (.ref p),some (.ref u),none,none,none,none,none,none,none,none] from rfl];simp_arith! [yG];refine zAV wd ins oth ss a b r ys g (zAG hP hd Jy fun bl bs H1 s1 hbl0 hbl hbs=>?_);have hG:=FZ.jP hgd;have lB:=FZ.ip ss;obtain ⟨B,hB⟩:∃B,B=FZ.aW ss:=⟨_,rfl⟩
 rw [<- hB] at hG lB hbs qk;have lb:=hbs.length;refine later ?_;simp_arith! [tW];refine ⟨⟨_,SqL.of hbl⟩,fun acc hacc bk=>?_⟩;have up:=nJ h3 hp3;refine eF (xs:=bs) (fun i ys H'=>Same H1 H'/\H' acc=some (.lst ys)/\∃(rs:List Addr)(bbs:List (List (List FB.Deed))),ys=rs.map V.ref/\Paired (eQ us) (B.take i) bbs/\Paired (fun r bs=>H1 r=none/\r≠acc/\BtsV K (fun p=>H1 p=none/\p≠acc) H' r bs) rs bbs) (zAB (Same.upd hacc) ac (zAA ([]) ([]) rfl .nil .nil)) (fun i ys H' _ h=>SqL.of (h.1 _ _ hbl)) ?_ ?_
 ·rintro i x ys H2 os hi ho ⟨s2,ha2,rs,bbs,rfl,hL,hR⟩;obtain ⟨b0,hb0,hbv⟩:=Paired.get hbs hi;have hb8:=(hG b0 (zq9 hb0)).len;obtain ⟨qb,ab,eb,vs,rfl,v1,v2,v3,v4,v5,v6⟩:=hbv.same s2;refine B0 ho ?_;rwa [tW];refine zAD b0 us ⟨zAO ab eb vs v1 v2 v3 v4,hb8,(s1.trans s2).seqT hU,h3,hp3⟩ fun c bs0 H3 s3 hc hl hv=>?_;have e3:=s3 _ _ ha2;have nc:c≠acc:=(am ha2 hc).symm;have lr:=hR.length;have lL:=hL.length;rw [dS] at lL;refine zAI e3 (by rw [zq1,sizeLine_eq];omega) ((s2.trans s3).updM hacc) ac (zAA (rs++[c]) (bbs++[bs0]) (by rw [cy];rfl) ?_ ?_)
  ·obtain ⟨h1,h2⟩:=zq10.mp hb0;rw [eg h1,h2];exact FL.Paired.snoc hl hL
  ·refine FL.Paired.snoc ⟨s2.free hc,nc,?_⟩ (FL.Paired.imp hR fun r0 _ l _ ⟨z1,z2,z3⟩=>zAB z1 z2 ((z3.mv s3 fun _ z=>z).updL e3 z2 fun _ z=>z.2));exact (hv.mv (Same.refl _) fun p0 z=>⟨s2.free z,(am ha2 z).symm⟩).updL e3 nc fun _ z=>z.2
 ·rintro ys H2 ⟨s2,ha2,rs,bbs,rfl,hL,hR⟩;rw [nT Jy] at hL;have lr:=hR.length;have lL:=hL.length;have hne:∀bs∈bbs,bs≠[]/\bs.length<=9:=fun bs hbs=>by obtain ⟨i,hi⟩:=zq61.mp hbs;obtain ⟨b0,hb0,hl⟩:=Paired.getR hL hi;have h8:=(hG b0 (zq9 hb0)).len;exact ⟨(cO (fun s hs=>As (up s hs)) h8 hl).1,pd h8 hl⟩
  have hR2:Paired (fun r bs=>H1 r=none/\BtsV K (fun p=>H1 p=none) H2 r bs) rs bbs:=FL.Paired.imp hR fun r0 _ l _ ⟨z1,_,z3⟩=>⟨z1,z3.mv (Same.refl _) fun _ z=>z.1⟩
  have hsum:=mz fun bs hbs=>(hne bs hbs).2;have hacc0:=hacc;clear hR hacc bk;refine later ?_;simp_arith! [];intro fl hfl;refine later ?_;simp_arith! [];refine later ?_;simp_arith! [];have t1:=Same.upd (o:=.lst []) hfl;refine ⟨fun σ H'=>Same H2 H'/\H' fl=some (.lst (nl (bA bbs)))/\∃o6 o7,σ=[some (V.ref p),some (V.ref u),some (V.ref bl),none,some (V.ref acc),some (V.ref fl),o6,o7,none,none],?_,?_⟩
  ·refine ⟨⟨_,SqL.of (t1 _ _ ha2)⟩,?_⟩;refine dk (xs:=rs.map V.ref) (fun i σ H'=>Same H2 H'/\H' fl=some (.lst (nl ((bA bbs).take i)))/\∃o7,σ=[some (V.ref p),some (V.ref u),some (V.ref bl),none,some (V.ref acc),some (V.ref fl),some (V.int (fF (bbs.take i))),o7,none,none])
    (zAB t1 ac ⟨_,rfl⟩) (fun i σ H' _ h=>SqL.of (h.1 _ _ ha2)) ?_ ?_
   ·rintro i x σ H3 hx ⟨s3,e3,o7,rfl⟩;rw [cn] at hx;obtain ⟨r0,hr0,rfl⟩:=zq32.mp hx;obtain ⟨bs0,hbs0,z1,ps,hps,hpp⟩:=Paired.get hR2 hr0;have hi:=(zq10.mp hbs0).1;have lp:=hpp.length;have lf:(bA bbs).length=bbs.length:=by unfold bA;rw [zq1,fc]
    have ltk:=fw (ps:=(bA bbs).take i);rw [dS] at ltk;rwa [];have nr:r0≠fl:=am hps hfl;refine ⟨.inl ⟨rfl,_,SqL.of e3⟩,zAC _ e3 (by rw [ltk,sizeLine_eq];omega) (zAF (ps.map V.ref) (.inl (SqL.of (by rw [ao nr];exact s3 _ _ hps))) (s3.updM hfl) ?_ ⟨some (V.ref r0),?_⟩)⟩
    ·have hf:(bA bbs)[i]?=some (fF (bbs.take i)):=by unfold bA;rw [cn,wK hi];rfl
     obtain ⟨h1,h2⟩:=zq10.mp hf;rw [ac,eg h1,h2];unfold nl;rw [cy];rfl
    ·rw [eY hbs0,zq1,lp,Int.natCast_add]
   ·rintro σ H3 ⟨s3,e3,o7,rfl⟩;rw [zq1,lr,nT (by unfold bA;rw [zq1,fc];exact zq0 _)] at e3;exact zAB s3 e3 (zAJ _ _ rfl)
  rintro σ H3 ⟨s3,e3,o6,o7,rfl⟩;refine later ?_;simp_arith! [];intro tb htb;refine later ?_;simp_arith! [tZ];have t4:=Same.upd (o:=.lst []) htb;have hS3:=s2.trans s3;have lB1:B.length=bbs.length:=lL;refine zAE bl acc rfl ⟨_,SqL.of (t4 _ _ (hS3 _ _ hbl))⟩ ⟨_,SqL.of (t4 _ _ (s3 _ _ ha2))⟩ ?_;refine Ef (xs:=bs) (ys:=rs.map V.ref) (by rw [zq1];omega) (fun i σ H'=>Same H3 H'/\(∃xs,H' tb=some (.lst xs)/\Paired (BlkV K (fun c=>H c=none) H' tb) xs (gP B bbs i))/\∃o3 o7 o9,σ=[some (V.ref p),some (V.ref u),some (V.ref bl),o3,some (V.ref acc),some (V.ref fl),o6,o7,some (V.ref tb),o9])
   (zAB t4 (zn ([]) ac .nil) (zAH _ _ _ rfl)) (fun i σ H' _ h=>⟨SqL.of (h.1 _ _ (hS3 _ _ hbl)),SqL.of (h.1 _ _ (s3 _ _ ha2))⟩) ?_ ?_
  ·rintro i x y σ H5 pp hx hy hpp ⟨s5,⟨xs,e5,hxs⟩,o3,o7,o9,rfl⟩;rw [cn] at hy;obtain ⟨r0,hr0,rfl⟩:=zq32.mp hy;obtain ⟨bs0,hbs0,z1,ps,hps,hpp0⟩:=Paired.get hR2 hr0;obtain ⟨b0,hb0,hbv⟩:=Paired.get hbs hx;obtain ⟨qb,ab,eb,vs,rfl,v1,v2,v3,v4,v5,v6⟩:=hbv.same hS3;have lp:=hpp0.length;have hn0:=(hne bs0 (zq9 hbs0)).1;have hlen:=g6 lB1 (fun bs hbs=>(hne bs hbs).1) i (by have:=(zq10.mp hbs0).1;omega);have hsle:=nG (bbs:=bbs) (i+1);rw [eY hbs0] at hsle;simp_arith! [];refine zAC _ (SqT.of ac) rfl ?_;have t6:=Same.upd (o:=.tup [.ref qb,.ref r0]) hpp;have s6:=s5.trans t6;have e6:=t6 _ _ e5;have hx6:=FL.Paired.imp hxs fun y _ c _ h=>h.same t6;clear hxs hpp e5;generalize upd H5 pp (.tup [.ref qb,.ref r0])=H6 at t6 s6 e6 hx6 ⊢;simp_arith! [tZ];refine ⟨fun σ H'=>Same H3 H'/\(∃xs,H' tb=some (.lst xs)/\Paired (BlkV K (fun c=>H c=none) H' tb) xs (gP B bbs i++bs0.dropLast.mapIdx fun j d=>⟨d,.go ((gP B bbs i).length+j+1)⟩))/\∃o9,σ=[some (V.ref p),some (V.ref u),some (V.ref bl),some (V.ref qb),some (V.ref acc),some (V.ref fl),o6,some (V.ref r0),some (V.ref tb),o9],?_,?_⟩
   ·refine zn _ (SqL.of (s6 _ _ (s3 _ _ hps))) fun sl hsl=>?_;rw [v7];have t7:=Same.upd (o:=.lst (ps.map V.ref).dropLast) hsl;have s7:=s6.trans t7;have e7:=t7 _ _ e6;have esl:upd H6 sl (.lst (ps.map V.ref).dropLast) sl=some (.lst (ps.map V.ref).dropLast):=ac;have hx7:=FL.Paired.imp hx6 fun y _ c _ h=>h.same t7;have nsl:sl≠tb:=(am e6 hsl).symm;generalize upd H6 sl (.lst (ps.map V.ref).dropLast)=H7 at t7 s7 e7 esl hx7 ⊢;refine ⟨⟨_,SqL.of esl⟩,?_⟩;refine dk (xs:=(ps.map V.ref).dropLast) (fun j σ H'=>SameX tb H7 H'/\(∃xs,H' tb=some (.lst xs)/\Paired (BlkV K (fun c=>H c=none) H' tb) xs (gP B bbs i++(bs0.dropLast.take j).mapIdx fun j d=>⟨d,.go ((gP B bbs i).length+j+1)⟩))/\∃o9,σ=[some (V.ref p),some (V.ref u),some (V.ref bl),some (V.ref qb),some (V.ref acc),some (V.ref fl),o6,some (V.ref r0),some (V.ref tb),o9])
     (zAB SameX.refl (zn _ e7 (by simpa using hx7)) ⟨_,rfl⟩) (fun j σ H' _ h=>SqL.of (h.1 _ _ esl nsl)) ?_ ?_
    ·rintro j x σ H8 hxj ⟨sx8,⟨xs8,e8,hx8⟩,o9',rfl⟩;rwa [];have hjl:j<ps.length-1:=by have:=(zq10.mp hxj).1;rwa [kP,zq1] at this
     obtain ⟨pj,hpj⟩:∃pj,ps[j]?=some pj:=⟨_,zq8 Jy⟩
     rw [Au,if_pos (by rw [zq1];exact hjl),cn,hpj] at hxj
     cases hxj
     obtain ⟨l,hl,hN,vl,hvl,hdl⟩:=Paired.get hpp0 hpj;have hld:bs0.dropLast[j]?=some l:=by rw [Au,if_pos Jy];exact hl
     have lx8:=hx8.length;rw [zq4,wQ,dS,kP] at lx8;have s38:Same H3 H8:=fun c o e=>sx8 c o (s7 c o e) (am e htb);refine ⟨.inl ⟨rfl,_,SqL.of e8⟩,zn _ (.inl (SqL.of e8)) fun p1 hp1 p2 hp2=>?_⟩;have t9:=Same.upd (o:=.tup [V.str (Str.ofString "go"),V.int ((xs8.length:Int)+1)]) hp1;have t10:=Same.upd (o:=.tup [V.ref pj,V.ref p1]) hp2;have s10:=t9.trans t10;have e1:=t10 _ _ (ac (H:=H8) (a:=p1) (o:=.tup [V.str (Str.ofString "go"),V.int ((xs8.length:Int)+1)]));have s310:=s38.trans s10;refine zAZ xs8 (s10 _ _ e8) (by rw [sizeLine_eq];omega) ((sx8.trans (SameX.of s10)).trans SameX.upd) (zn _ ac ?_) ⟨_,rfl⟩;rw [qu hld,<- qI];refine zE (s10 _ _ e8) (FL.Paired.imp hx8 fun y _ c _ h=>h.same s10) ac (s310 _ _ (s3 _ _ hvl)) (FL.Paired.imp hdl fun _ _ _ _ z=>z.ts (s3.trans s310).ts) (e:=p1) ?_ (am (s3 _ _ hvl) htb) (s1.free hN);rw [e1,lx8,wL Jy];rfl
    ·rintro σ H8 ⟨sx8,⟨xs8,e8,hx8⟩,o9',rfl⟩;refine zAB (fun c o e=>sx8 c o (s7 c o e) (am e htb)) (zn xs8 e8 ?_) ⟨_,rfl⟩;rw [nT (by rw [kP,kP,zq1];omega)] at hx8;exact hx8
   ·rintro σ H8 ⟨s8,⟨xs8,e8,hx8⟩,o9',rfl⟩;refine later ?_;rwa [tZ];obtain ⟨pl,hat,hN,vl,hvl,hdl⟩:=vz hpp0 hn0;have lx8:=hx8.length;rw [zq4,wQ,kP] at lx8;have lb0:=zq47.mpr hn0;refine ⟨.inl ⟨rfl,_,SqL.of e8⟩,zAA _ _ (SqL.of (s8 _ _ (s3 _ _ hps))) hat (zAA _ _ (SqT.of (s8 _ _ v1)) rfl ?_)⟩;rw [tZ];refine zAE b0.ed (bA bbs) (s8 _ _ v4) (SqL.of (s8 _ _ e3)) (fun k hk=>?_) fun e' H9 s9 he' p1 hp1=>?_
    ·have:=(hG b0 (zq9 hb0)).tg k hk;unfold bA;rw [zq1,fc];omega
    have t10:=Same.upd (o:=.tup [.ref pl,.ref e']) hp1;have s10:=s9.trans t10;have s310:=s8.trans s10;refine zAZ xs8 (s10 _ _ e8) (by rw [sizeLine_eq];omega) (s310.updM htb) (zn _ ac ?_) (zAH _ _ _ rfl);rw [dU hb0 hbs0,mH,fY,<- qI];exact zE (s10 _ _ e8) (FL.Paired.imp hx8 fun y _ c _ h=>h.same s10) ac (s310 _ _ (s3 _ _ hvl)) (FL.Paired.imp hdl fun _ _ _ _ z=>z.ts (s3.trans s310).ts) (t10 _ _ he') (am (s3 _ _ hvl) htb) (s1.free hN)
  ·rintro σ H5 ⟨s5,⟨xs,e5,hxs⟩,o3,o7,o9,rfl⟩;refine later ?_;rwa [];rw [lb,fZ lB1] at hxs;exact qk tb xs bbs H5 ((s1.trans hS3).trans s5) ((s1.trans hS3).free htb) e5 hL hxs
variable {b b':Bx} {d:Deed} {i j p:Nat} {n:Str}
theorem j2{m:Str}{x:Int}:aH (bv b (.inr m) (.int x)) n=if n=m then x else aH b n:=by
 unfold aH;rw [FG.iU]
 split<;>rfl
theorem j1{w:Int}{b0:Bx}:aH (GO.atB w d b0 b) n=if n∈d.writes then cR b0 w d else aH b n:=by
 cases d with
 |tell a=>rw [if_neg (by intro z;cases z)];rfl
 |copy m a=>
  show aH (bv b (.inr m) _) n=_;rw [j2]
  by_cases h:n=m
  ·rw [if_pos h,if_pos (by rw [h];exact zq2.mpr rfl)]
  ·rw [if_neg h];exact (if_neg (show n∉[m] from fun z=>h (zq2.mp z))).symm
 |op f m x y=>
  show aH (bv b (.inr m) _) n=_;rw [j2]
  by_cases h:n=m
  ·rw [if_pos h,if_pos (by rw [h];exact zq2.mpr rfl)]
  ·rw [if_neg h];exact (if_neg (show n∉[m] from fun z=>h (zq2.mp z))).symm
theorem x2{w:Int}:GO.atB w d b b=doB w d b:=by cases d<;>rfl
theorem fA{o:Opd}(h:∀n∈o.reads,aH b n=aH b' n):eA b o=eA b' o:=by
 cases o with
 |box n=>exact h n (zq2.mpr rfl)
 |word i=>rfl
theorem oO{w:Int}(h:∀n∈d.reads,aH b n=aH b' n):cR b w d=cR b' w d:=by
 cases d with
 |tell a=>exact fA h
 |copy m a=>exact fA h
 |op f m x y=>show jB f (eA b x) (eA b y) w=jB f (eA b' x) (eA b' y) w;rw [fA (o:=x) fun n hn=>h n (jD _ hn),fA (o:=y) fun n hn=>h n (dC _ hn)]
theorem xn{w:Int}{t:List Int}:doT w d b t=t++if d.tells=true then [cR b w d] else []:=by
 cases d with
 |tell a=>rfl
 |copy m a=>exact (gQ _).symm
 |op f m x y=>exact (gQ _).symm
def vAt(w:Int)(ds:List Deed)(s:GA.BT)(p:Nat):Int:=cR (GA.dos w (ds.take p) s).1 w (bW ds p)
def eV(ds:List Deed)(v:Nat->Int)(b:Bx)(S:Nat->Bool)(n:Str):Nat->Int
 |0=>aH b n
 |k+1=>if S k=true/\n∈(bW ds k).writes then v k else eV ds v b S n k
theorem iy{ds:List Deed}(h:p<ds.length):ds[p]?=some (bW ds p):=by unfold bW;rw [fJ,zq8 h];rfl
theorem rT{w:Int}{ds:List Deed}{s:GA.BT}{n:Str}:∀p,p<=ds.length->aH (GA.dos w (ds.take p) s).1 n=eV ds (vAt w ds s) s.1 (fun _=>true) n p
 |0,_=>rfl
 |p+1,hp=>by
  rw [GA.jV (iy Jy),eV,<- x2];dsimp only;rw [j1,rT p Jy]
  by_cases h:n∈(bW ds p).writes
  ·rw [if_pos h,if_pos ⟨rfl,h⟩];rfl
  ·rw [if_neg h,if_neg (fun z=>h z.2)]
theorem pR{w:Int}{ds:List Deed}{s:GA.BT}:∀p,p<=ds.length->(GA.dos w (ds.take p) s).2=s.2++((List.range p).filter fun q=>(bW ds q).tells).map (vAt w ds s)
 |0,_=>by
  show s.2=_;simp
 |p+1,hp=>by
  rw [GA.jV (iy Jy)];dsimp only;rw [xn,pR p Jy,A8,uL,cy,<- qI];congr 1;rw [List.filter_cons]
  split<;>rfl
theorem gv{ds:List Deed}{v:Nat->Int}{b:Bx}{S:Nat->Bool}{n:Str}{p:Nat}:∀N,p<=N->(∀k,p<=k->k<N->¬(S k=true/\n∈(bW ds k).writes))->eV ds v b S n N=eV ds v b S n p
 |0,h,_=>by
  obtain rfl:p=0:=by omega
  rfl
 |N+1,h,hk=>by
  by_cases e:p=N+1
  ·rw [e]
  ·rw [eV,if_neg (hk N Jy Jy)];exact gv N Jy fun k h1 h2=>hk k h1 Jy
theorem dq{ds:List Deed}{v:Nat->Int}{b:Bx}{S S':Nat->Bool}{n:Str}:∀N,(∀k,k<N->n∈(bW ds k).writes->S k=S' k)->eV ds v b S n N=eV ds v b S' n N
 |0,_=>rfl
 |N+1,h=>by
  rw [eV,eV,dq N fun k hk=>h k Jy]
  by_cases e:n∈(bW ds N).writes
  ·rw [h N Jy e]
  ·rw [if_neg (fun z=>e z.2),if_neg (fun z=>e z.2)]
theorem vy{ds:List Deed}{v:Nat->Int}{S:Nat->Bool}{N:Nat}(hp:p<N)(hS:S p=true)(hw:n∈(bW ds p).writes)(h:∀k,p<k->k<N->¬(S k=true/\n∈(bW ds k).writes)):eV ds v b S n N=v p:=by rw [gv (p:=p+1) N Jy fun k h1 h2=>h k Jy h2,eV,if_pos ⟨hS,hw⟩]
theorem io{w:Int}{b0:Bx}{n:Str}:∀{l:List Deed} {s:GA.BT},(∀d∈l,n∉d.writes)->aH (GO.beat w b0 l s).1 n=aH s.1 n
 | [],s,_=>rfl
 |d::r,s,h=>by rw [GO.beat,io fun e he=>h e (zq6 _ he)];dsimp only;rw [j1,if_neg (h d (eD ..))]
theorem ot{w:Int}{b0:Bx}{n:Str}{d:Deed}(hw:n∈d.writes):∀{l:List Deed} {s:GA.BT},d∈l->(l.Pairwise fun d e=>∀n∈d.writes,n∉e.writes)->aH (GO.beat w b0 l s).1 n=cR b0 w d
 | [],s,h,_=>by cases h
 |c::r,s,h,hp=>by
  rw [uQ] at hp;rw [GO.beat];rcases zq5.mp h with e | e
  ·subst e;rw [io fun e he=>hp.1 e he n hw];dsimp only;rw [j1,if_pos hw]
  ·exact ot hw e hp.2
theorem iY{w:Int}{b0:Bx}:∀{l:List Deed} {s:GA.BT},(GO.beat w b0 l s).2=s.2++(l.filter Deed.tells).map (cR b0 w)
 | [],s=>by show s.2=_;simp
 |d::r,s=>by
  rw [GO.beat,iY];dsimp only;rw [xn,List.filter_cons,qI];congr 1
  split<;>rfl
def bts(w:Int):List (List Deed)->GA.BT->GA.BT
 | [],s=>s
 |l::r,s=>bts w r (GO.beat w s.1 l s)
theorem iq{w:Int}:∀{l m:List (List Deed)} {s:GA.BT},bts w (l++m) s=bts w m (bts w l s)
 | [],m,s=>rfl
 |x::l,m,s=>by rw [wJ,bts,bts,iq]
theorem ox{w:Int}{l:List (List Deed)}{x:List Deed}{s:GA.BT}(h:l[i]?=some x):bts w (l.take (i+1)) s=GO.beat w (bts w (l.take i) s).1 x (bts w (l.take i) s):=by obtain ⟨hi,e⟩:=zq10.mp h;rw [eg hi,e,iq];rfl
theorem mem_takeF{bss:List (List Nat)}{q:Nat}:q∈(bss.take i).flatten↔∃(i':Nat)(b:List Nat),i'<i/\bss[i']?=some b/\q∈b:=by
 rw [zq84]
 constructor
 ·rintro ⟨b,hb,hq⟩;obtain ⟨k,hk⟩:=zq61.mp hb;rw [List.getElem?_take] at hk
  split at hk
  ·next h=>exact zAA k b h hk hq
  ·cases hk
 ·rintro ⟨i',b,h1,h2,h3⟩;exact zn b (zq61.mpr ⟨i',by rw [List.getElem?_take,if_pos h1];exact h2⟩) h3
theorem mQ{ds:List Deed}{k:Nat}(hj:j<ds.length)(hk:k<ds.length):aQ ds j k=FB.jv (bW ds j) (bW ds k):=by unfold aQ;rw [iy hj,iy hk]
section
variable {w:Int} {ds:List Deed} {us:List Int} {bss:List (List Nat)}
theorem mY(h:gR (aQ ds) (soN ds) (uN us) bss (List.range ds.length)){i2:Nat}{b b2:List Nat}{k:Nat}(hb:bss[i]?=some b)(hp:p∈b)(hb2:bss[i2]?=some b2)(hk:k∈b2)(lt:p<k){l:Int}(hg:aQ ds p k=some l):(i:Int)+l<=i2:=by have nd:bss.flatten.Nodup:=h.perm.nodup_iff.mpr AG;obtain ⟨i',b',h1,h2,h3⟩:=h.lean i2 b2 k hb2 hk p lt l hg;have:=fR nd hb h1 hp h2;subst this;exact h3
theorem xx{ds:List Deed}{k:Nat}(hj:j<ds.length)(hk:k<ds.length)(h1:n∈(bW ds j).writes)(h2:n∈(bW ds k).reads\/n∈(bW ds k).writes):aQ ds j k=some 1:=by
 rw [mQ hj hk,FB.jv]
 split
 ·rfl
 ·rw [if_pos ⟨n,h1,h2⟩]
theorem Ei{ds:List Deed}{k:Nat}(hj:j<ds.length)(hk:k<ds.length)(h1:n∈(bW ds j).reads)(h2:n∈(bW ds k).writes):∃l:Int,aQ ds j k=some l/\0<=l:=by
 rw [mQ hj hk,FB.jv]
 split
 ·exact zn 1 rfl Jx
 ·split
  ·exact zn 1 rfl Jx
  ·rw [if_pos ⟨n,h2,h1⟩];exact zn 0 rfl Jx
theorem Ej{ds:List Deed}{k:Nat}(hj:j<ds.length)(hk:k<ds.length)(h1:(bW ds j).tells=true)(h2:(bW ds k).tells=true):aQ ds j k=some 1:=by rw [mQ hj hk,FB.jv,if_pos ⟨h1,h2⟩]
structure LayI(w:Int)(ds:List Deed)(bss:List (List Nat))(s:GA.BT)(i:Nat)(st:GA.BT):Prop where
 bx:∀n,aH st.1 n=eV ds (vAt w ds s) s.1 (fun q=>decide (q∈(bss.take i).flatten)) n ds.length
 td:st.2=s.2++((List.range ds.length).filter fun q=>decide (q∈(bss.take i).flatten)&&(bW ds q).tells).map (vAt w ds s)
theorem LayI.step{s st:GA.BT}{b:List Nat}(h:gR (aQ ds) (soN ds) (uN us) bss (List.range ds.length))(hi:LayI w ds bss s i st)(hb:bss[i]?=some b):LayI w ds bss s (i+1) (GO.beat w st.1 (b.map (bW ds)) st):=by
 have nd:bss.flatten.Nodup:=h.perm.nodup_iff.mpr AG;have ltN:∀{k:Nat} {c:List Nat} {q:Nat},bss[k]?=some c->q∈c->q<ds.length:=fun hc hq=>zq40.mp (h.perm.mem_iff.mp (zq84.mpr (zn _ (zq9 hc) hq)));have hm:=zq9 hb;obtain ⟨hbt,_,_⟩:=eT h b hm;have hpw:(b.map (bW ds)).Pairwise fun d e=>∀n∈d.writes,n∉e.writes:=hbt.one.imp fun z=>z.2;have hv:∀p∈b,cR st.1 w (bW ds p)=vAt w ds s p:=fun p hp=>by
  have hpN:=ltN hb hp;refine oO fun n hn=>?_;rw [hi.bx,rT p Jy,gv (p:=p) _ Jy]
  ·refine dq _ fun k hk hwk=>?_;have g:=xx Jy hpN hwk (.inl hn);obtain ⟨i',b',h1,h2,h3⟩:=h.lean i b p hb hp k hk 1 g;exact decide_eq_true (mem_takeF.mpr (zAA i' b' Jy h1 h2))
  ·rintro k hk1 hk2 ⟨hS,hwk⟩;obtain ⟨i',b',h1,h2,h3⟩:=mem_takeF.mp (of_decide_eq_true hS)
   by_cases e:k=p
   ·subst e;have:=fR nd hb h2 hp h3;omega
   ·obtain ⟨l,g,hl⟩:=Ei hpN (ltN h2 h3) hn hwk;have:=mY h hb hp h2 h3 Jy g;omega
 have mS:∀q,q∈(bss.take (i+1)).flatten↔q∈(bss.take i).flatten\/q∈b:=fun q=>by obtain ⟨hlt,e⟩:=zq10.mp hb;rw [eg hlt,e,List.flatten_append,zq11];simp
 refine ⟨fun n=>?_,?_⟩
 ·by_cases hx:∃p∈b,n∈(bW ds p).writes
  ·obtain ⟨p,hp,hw⟩:=hx;rw [ot hw (zq23.mpr ⟨p,hp,rfl⟩) hpw,hv p hp,vy (ltN hb hp) (decide_eq_true ((mS p).mpr (.inr hp))) hw];rintro k hk1 hk2 ⟨hS,hwk⟩;obtain ⟨i',b',h1,h2,h3⟩:=mem_takeF.mp (of_decide_eq_true hS);have:=mY h hb hp h2 h3 hk1 (xx (ltN hb hp) (ltN h2 h3) hw (.inr hwk));omega
  ·rw [io,hi.bx]
   ·refine dq _ fun k hk hwk=>?_;have nb:k∉b:=fun z=>hx (zn k z hwk);have:(k∈(bss.take (i+1)).flatten)=(k∈(bss.take i).flatten):=propext ⟨fun z=>((mS k).mp z).resolve_right nb,fun z=>(mS k).mpr (.inl z)⟩;rw [decide_eq_decide,this]
   ·intro d hd;obtain ⟨p,hp,rfl⟩:=zq23.mp hd;exact fun z=>hx (zn p hp z)
 ·rw [iY,hi.td,qI];congr 1;have e1:((b.map (bW ds)).filter Deed.tells).map (cR st.1 w)=(b.filter fun q=>(bW ds q).tells).map (vAt w ds s):=by rw [List.filter_map,jH];refine wM fun p hp=>hv p (zq39.mp hp).1
  rw [e1,<- cy];congr 1;refine List.Perm.eq_of_pairwise (le:=(·<=·)) (fun a c _ _ h1 h2=>Nat.le_antisymm h1 h2) ?_ ?_ ?_
  ·rw [List.pairwise_append];refine zAB (List.Pairwise.filter _ (zq97.imp nO)) (List.Pairwise.filter _ ((h.srt b hm).imp nO)) fun q hq p hp=>?_;rw [zq39,dB] at hq;rw [zq39] at hp;obtain ⟨i',b',h1,h2,h3⟩:=mem_takeF.mp (of_decide_eq_true hq.2.1);rcases Nat.lt_or_ge p q with z | z
   ·have:=mY h hb hp.1 h2 h3 z (Ej (ltN hb hp.1) (ltN h2 h3) hp.2 hq.2.2);omega
   ·exact z
  ·exact List.Pairwise.filter _ (zq97.imp nO)
  ·have n1:((List.range ds.length).filter fun q=>decide (q∈(bss.take (i+1)).flatten)&&(bW ds q).tells).Nodup:=List.Pairwise.filter _ AG;have n2:((List.range ds.length).filter (fun q=>decide (q∈(bss.take i).flatten)&&(bW ds q).tells)++b.filter fun q=>(bW ds q).tells).Nodup:=by rw [zq59];refine zAB (List.Pairwise.filter _ AG) (List.Pairwise.filter _ ((h.srt b hm).imp cx)) fun q hq p hp e=>?_;subst e;rw [zq39,dB] at hq;obtain ⟨i',b',h1,h2,h3⟩:=mem_takeF.mp (of_decide_eq_true hq.2.1);have:=fR nd hb h2 (zq39.mp hp).1 h3;omega
   refine (DW n2 n1).mpr fun q=>?_;rw [zq11,zq39,zq39,zq39,dB,dB,decide_eq_true_iff,decide_eq_true_iff,mS,zq40]
   constructor
   ·rintro (⟨z1,z2,z3⟩ | ⟨z1,z2⟩)
    ·exact zAB z1 (.inl z2) z3
    ·exact zAB (ltN hb z1) (.inr z1) z2
   ·rintro ⟨z1,z2 | z2,z3⟩
    ·exact .inl (zAB z1 z2 z3)
    ·exact .inr ⟨z2,z3⟩
theorem LayI.all{s:GA.BT}(h:gR (aQ ds) (soN ds) (uN us) bss (List.range ds.length)):∀i,i<=bss.length->LayI w ds bss s i (bts w ((aO ds bss).take i) s)
 |0,_=>⟨fun n=>by
   rw [dq (S':=fun _=>false) _ fun k _ _=>decide_eq_false (by rw [Ag];exact fun z=>by cases z),gv (p:=0) _ (cm _) fun k _ _ z=>zq3 z.1];rfl,by
   rw [List.filter_eq_nil_iff.mpr (fun q _=>by rw [Ag];simp)];exact (gQ _).symm⟩
 |i+1,hi=>by
  obtain ⟨b,hb⟩:∃b,bss[i]?=some b:=⟨_,zq8 Jy⟩
  have hd:(aO ds bss)[i]?=some (b.map (bW ds)):=by unfold aO;rw [cn,hb];rfl
  rw [ox hd];exact (LayI.all h i Jy).step h hb
theorem xM{s:GA.BT}(h:gR (aQ ds) (soN ds) (uN us) bss (List.range ds.length)):(∀n,aH (bts w (aO ds bss) s).1 n=aH (GA.dos w ds s).1 n)/\(bts w (aO ds bss) s).2=(GA.dos w ds s).2:=by
 have z:=LayI.all (w:=w) (s:=s) h bss.length (zq0 _);rw [nT (by unfold aO;rw [zq1];exact zq0 _)] at z;have al:∀q,q<ds.length->decide (q∈(bss.take bss.length).flatten)=true:=fun q hq=>by rw [eE];exact decide_eq_true (h.perm.mem_iff.mpr (zq40.mpr hq))
 have e:=eE (l:=ds);have q1:=fun n=>rT (w:=w) (s:=s) (n:=n) ds.length (zq0 _);have q2:=pR (w:=w) (s:=s) (ds:=ds) ds.length (zq0 _);rw [e] at q2;refine ⟨fun n=>?_,?_⟩
 ·have q3:=q1 n;rw [e] at q3;rw [z.bx,q3];exact dq _ fun k hk _=>al k hk
 ·rw [z.td,q2];congr 2;exact List.filter_congr fun q hq=>by rw [al q (zq40.mp hq),AA]
end
theorem zM(nd:(b.map (·.1)).Nodup){k:Key}{v:V}(h:b[i]?=some (k,v)):bE b k=some v:=by
 unfold bE
 cases e:b.find? (fun kv=>decide (kv.1=k)) with
 |none=>
  have:=List.find?_eq_none.mp e (k,v) (zq9 h);simp at this
 |some kv=>
  have h1:kv.1=k:=by have:=List.find?_some e;simpa using this
  obtain ⟨j,hj⟩:=zq61.mp (DS e);have e1:(b.map (·.1))[j]?=some k:=by rw [cn,hj];exact congrArg some h1
  have e2:(b.map (·.1))[i]?=some k:=by rw [cn,h];rfl
  have hj':=(zq10.mp e1)
  have hi':=(zq10.mp e2)
  obtain ⟨a1,a2⟩:=hj';obtain ⟨c1,c2⟩:=hi';have:j=i:=(List.getElem_inj nd).mp (a2.trans c2.symm);subst this;rw [h] at hj
  cases hj
  rfl
theorem E9(h:IntD b)(h':IntD b'){ks:List Str}(hk:b.map (·.1)=ks.map Sum.inr)(hk':b'.map (·.1)=ks.map Sum.inr)(hv:∀n,aH b n=aH b' n):b=b':=by
 refine A7 fun i=>?_;have e1:=congrArg (fun l=>l[i]?) hk;have e2:=congrArg (fun l=>l[i]?) hk';rw [cn,cn] at e1 e2
 cases hi:ks[i]? with
 |none=>
  rw [hi] at e1 e2;rw [zq154.mp e1,zq154.mp e2]
 |some n=>rw [hi] at e1 e2;obtain ⟨⟨k,v⟩,g1,g2⟩:=zq32.mp e1;obtain ⟨⟨k',v'⟩,g3,g4⟩:=zq32.mp e2;have g2:k=Sum.inr n:=g2;have g4:k'=Sum.inr n:=g4;subst g2 g4;obtain ⟨x,hx⟩:=h.nums _ (zq9 g1);obtain ⟨y,hy⟩:=h'.nums _ (zq9 g3);have hx:v=.int x:=hx;have hy:v'=.int y:=hy;have z:=hv n;unfold aH FG.jC at z;rw [zM h.nd g1,zM h'.nd g3,hx,hy] at z;have z:x=y:=z;rw [g1,g3,hx,hy,z]
theorem gE{F:List FZ.Blk}{w:Int}:∀{m i:Nat} {s:GA.BT},s.2 <+: (GO.cW F w m i s).1.2
 |0,i,s=>qK _
 |m+1,i,s=>by
  have hb:∀b0 (l:List Deed),s.2 <+: (GO.beat w b0 l s).2:=fun b0 l=>by rw [iY];exact Ah _ _
  rw [GO.cW]
  split
  ·exact qK _
  ·split
   ·exact hb _ _
   ·exact (hb _ _).trans gE
def jN(F:List FZ.Blk)(m:Nat)(bs:List (List Deed))(ed:FZ.Ed):Prop:=∀j,j<bs.length->F[m+j]?=(fY m bs ed)[j]?
theorem nz{F:List FZ.Blk}{w:Int}{m:Nat}{bs:List (List Deed)}{ed:FZ.Ed}(hR:jN F m bs ed){st:GA.BT}{q:Nat}:∀j,j+1<=bs.length->GO.cW F w (q+j) m st=GO.cW F w q (m+j) (bts w (bs.take j) st)
 |0,_=>rfl
 |j+1,hj=>by
  have ih:=nz hR (w:=w) (st:=st) (q:=q+1) j Jy;have hb:bs[j]?=some bs[j]:=zq8 Jy;have hr:F[m+j]?=some ⟨bs[j],.go (m+j+1)⟩:=by rw [hR j Jy,fY,jE (by rw [wQ,kP];omega),List.getElem?_mapIdx,Au,if_pos Jy,hb];rfl
  rw [show q+(j+1)=q+1+j by omega,ih,GO.gD hr,GO.tR,ox hb];rfl
theorem zh{F:List FZ.Blk}{w:Int}{m:Nat}{bs:List (List Deed)}{ed:FZ.Ed}(hR:jN F m bs ed)(hn:bs≠[]){st:GA.BT}{q:Nat}:GO.cW F w (q+bs.length) m st=match GA.nxt (bts w bs.dropLast st).1 ed with
  |none=>(bts w bs st,true)
  |some k=>GO.cW F w q k (bts w bs st):=by
 have hl:=zq47.mpr hn;have hr:F[m+(bs.length-1)]?=some ⟨eU bs,ed⟩:=by rw [hR _ Jy,fY,jh (by rw [wQ,kP];exact zq0 _),wQ,kP,qL];rfl
 have e:bts w bs st=GO.beat w (bts w bs.dropLast st).1 (eU bs) (bts w bs.dropLast st):=by
  conv=>lhs;rw [mX hn,iq]
  rfl
 rw [show q+bs.length=q+1+(bs.length-1) by omega,nz hR (bs.length-1) Jy,GO.gD hr,GO.tR,<- E1,e]
 all_goals cases GA.nxt (bts w bs.dropLast st).1 ed<;>rfl
theorem Bf{fs:List Nat}{b:Bx}{ed:FZ.Ed}:GA.nxt b (rg fs ed)=(GA.nxt b ed).map fun j=>fs.getD j 0:=by
 cases ed with
 |stop=>rfl
 |go i=>rfl
 |choose n i j=>
  show some (if aH b n≠0 then fs.getD i 0 else fs.getD j 0)=some (fs.getD (if aH b n≠0 then i else j) 0)
  split<;>rfl
theorem xV{b b':Bx}{ed:FZ.Ed}(h:∀n i j,ed=.choose n i j->aH b n=aH b' n):GA.nxt b ed=GA.nxt b' ed:=by
 cases ed with
 |stop=>rfl
 |go i=>rfl
 |choose n i j=>unfold GA.nxt;dsimp only;rw [h n i j rfl]
structure BK(ns:List Str)(w:Int)(ks:List Str)(b:Bx):Prop where
 g:BxG ns w b
 k:b.map (·.1)=ks.map Sum.inr
theorem BK.dos{ns ks:List Str}{w:Int}(hw:1<=w):∀{ds:List Deed} {s:GA.BT},BK ns w ks s.1->(∀d∈ds,Deed.good ns w d)->BK ns w ks (GA.dos w ds s).1
 | [],s,h,_=>h
 |d::r,s,h,hd=>BK.dos hw (ds:=r) (s:=(doB w d s.1,doT w d s.1 s.2)) ⟨h.g.doB (hd d (eD ..)) hw,(GO.xH h.g (hd d (eD ..))).trans h.k⟩ fun e he=>hd e (zq6 _ he)
theorem BK.bts{ns ks:List Str}{w:Int}(hw:1<=w):∀{bs:List (List Deed)} {s:GA.BT},BK ns w ks s.1->(∀l∈bs,∀d∈l,Deed.good ns w d)->BK ns w ks (bts w bs s).1
 | [],s,h,_=>h
 |l::r,s,h,hd=>by obtain ⟨h1,h2⟩:=GO.BxG.beat h.g hw h.g (hd l (eD ..));exact BK.bts hw (bs:=r) (s:=GO.beat w s.1 l s) ⟨h1,h2.trans h.k⟩ fun e he=>hd e (zq6 _ he)
theorem Cs{ns ks:List Str}{w:Int}{us:List Int}{b:FZ.Blk}{bss:List (List Nat)}{s:GA.BT}(hw:1<=w)(hg:gR (aQ b.ds) (soN b.ds) (uN us) bss (List.range b.ds.length))(hs:BK ns w ks s.1)(hd:∀d∈b.ds,Deed.good ns w d):bts w (aO b.ds bss) s=GA.dos w b.ds s:=by
 obtain ⟨h1,h2⟩:=xM (w:=w) (s:=s) hg;have hb:∀l∈aO b.ds bss,∀d∈l,Deed.good ns w d:=fun l hl d hdl=>by obtain ⟨c,hc,rfl⟩:=zq23.mp hl;obtain ⟨p,hp,rfl⟩:=zq23.mp hdl;have hlt:=(eT hg c hc).2.2 p hp;exact hd _ (zq9 (iy hlt))
 have k1:=BK.bts hw hs hb;have k2:=BK.dos hw hs hd;exact Prod.ext (E9 k1.g.isI k2.g.isI k1.k k2.k h1) h2
theorem bts_F{w:Int}{b:FZ.Blk}{bss:List (List Nat)}{s:GA.BT}:bts w (bV b bss) s=bts w (aO b.ds bss) s:=by
 unfold bV
 split
 ·rw [iq];rfl
 ·rfl
theorem lI{us:List Int}{ds:List Deed}{bss:List (List Nat)}(hg:gR (aQ ds) (soN ds) (uN us) bss (List.range ds.length)):(aO ds bss).length<=ds.length:=by
 have z:=hg.perm.length_eq;rw [fc] at z;have key:∀l:List (List Nat),(∀b∈l,b≠[])->l.length<=l.flatten.length:=by
  intro l
  induction l with
  |nil=>intro _;exact cm _
  |cons b r ih=>intro h;have h1:=zq47.mpr (h b (eD ..));have h2:=ih fun c hc=>h c (zq6 _ hc);rw [Ar,zq4,cJ];omega
 have:=key bss hg.ne;unfold aO;rw [zq1];omega
section
variable {ns ks:List Str} {w:Int} {us:List Int} {F:List FZ.Blk} {b:FZ.Blk} {bs:List (List Deed)} {m:Nat} {fs:List Nat} {st:GA.BT}
theorem pe(hw:1<=w)(hL:eQ us b bs)(hR:jN F m bs (rg fs b.ed))(hs:BK ns w ks st.1)(hd:∀d∈b.ds,Deed.good ns w d)(q:Nat):GO.cW F w (q+bs.length) m st=match GA.nxt (GA.dos w b.ds st).1 b.ed with
  |none=>(GA.dos w b.ds st,true)
  |some j=>GO.cW F w q (fs.getD j 0) (GA.dos w b.ds st):=by
 obtain ⟨bss,hg,rfl⟩:=hL;have e1:bts w (bV b bss) st=GA.dos w b.ds st:=bts_F.trans (Cs hw hg hs hd);have e2:GA.nxt (bts w (bV b bss).dropLast st).1 b.ed=GA.nxt (GA.dos w b.ds st).1 b.ed:=by
  refine xV fun n i j he=>?_;have el:∀d∈eU (bV b bss),n∉d.writes:=by
   unfold bV
   split
   ·unfold eU;rw [List.getLastD_concat];intro d hd;cases hd
   ·next h=>
    intro d hd hn;rw [nP,not_or,he] at h;refine h.2 ?_;rw [jq,wrB,zq78];refine zn d hd (decide_eq_true ?_);unfold wrV
    cases d with
    |tell a=>cases hn
    |copy x a=>rw [zq2.mp hn];rfl
    |op f x y z=>rw [zq2.mp hn];rfl
  rw [<- e1]
  conv=>rhs;rw [mX (iZ (b:=b) (bss:=bss)),iq]
  exact (io el).symm
 rw [zh hR iZ,Bf,e2,e1]
 cases GA.nxt (GA.dos w b.ds st).1 b.ed<;>rfl
theorem vx(hw:1<=w)(hL:eQ us b bs)(hR:jN F m bs (rg fs b.ed))(hs:BK ns w ks st.1)(hd:∀d∈b.ds,Deed.good ns w d){q:Nat}(hq:b.ds.length<=q):(GA.dos w b.ds st).2 <+: (GO.cW F w q m st).1.2:=by
 have hL':=hL;obtain ⟨bss,hg,rfl⟩:=hL;have lb:=lI hg
 by_cases h:((aO b.ds bss).isEmpty || jq (aO b.ds bss) b.ed)=true
 ·have e:bV b bss=aO b.ds bss++[[]]:=by unfold bV;rw [if_pos h]
  have z:=nz hR (w:=w) (st:=st) (q:=q-(aO b.ds bss).length) (aO b.ds bss).length (by rw [e,zq4];exact zq0 _);rw [show q-(aO b.ds bss).length+(aO b.ds bss).length=q by omega] at z;rw [z,e,List.take_left,Cs hw hg hs hd];exact gE
 ·have e:bV b bss=aO b.ds bss:=by unfold bV;rw [if_neg h]
  have z:=pe hw hL' hR hs hd (q-(bV b bss).length);rw [e,show q-(aO b.ds bss).length+(aO b.ds bss).length=q by omega] at z;rw [z]
  split
  ·exact qK _
  ·exact gE
theorem vw(hL:eQ us b bs):bs.length<=b.ds.length+1:=by
 obtain ⟨bss,hg,rfl⟩:=hL;have lb:=lI hg;unfold bV
 split
 ·rw [zq4,c9];omega
 ·omega
end
theorem qz{B:List FZ.Blk}{bbs:List (List (List Deed))}(hl:B.length=bbs.length){i:Nat}:∀k,i<=k->k<=B.length->gP B bbs i <+: gP B bbs k
 |0,h,_=>by
  obtain rfl:i=0:=by omega
  exact qK _
 |k+1,h,hk=>by
  by_cases e:i=k+1
  ·rw [e];exact qK _
  ·have hb:B[k]?=some B[k]:=zq8 Jy;have hs:bbs[k]?=some bbs[k]:=zq8 Jy;rw [dU hb hs,mH];exact (qz hl k Jy Jy).trans (Ah _ _)
theorem zH{B:List FZ.Blk}{bbs:List (List (List Deed))}(hl:B.length=bbs.length)(hne:∀bs∈bbs,bs≠[]){i:Nat}{b:FZ.Blk}{bs:List (List Deed)}(hb:B[i]?=some b)(hs:bbs[i]?=some bs):jN (jd B bbs) (fF (bbs.take i)) bs (rg (bA bbs) b.ed):=fun j hj=>by have hi:=(zq10.mp hb).1;have len:=g6 hl hne i Jy;have hn:=hne _ (zq9 hs);have hr:=mh (m:=(gP B bbs i).length) (ed:=rg (bA bbs) b.ed) hn;obtain ⟨r,hr2⟩:=qz hl (i:=i+1) B.length Jy (zq0 _);rw [<- fZ hl,<- hr2,dU hb hs,mH];dsimp only;rw [jE (by rw [zq4,hr,len];omega),jh Jy,len,Nat.add_sub_cancel_left]
structure TC(F T:List FZ.Blk)(fs:List Nat)(ns ks:List Str)(w:Int):Prop where
 hw:1<=w
 gd:∀b∈F,(∀d∈b.ds,Deed.good ns w d)/\b.ds.length<=8
 run:∀(i:Nat)b (st:GA.BT),F[i]?=some b->BK ns w ks st.1->∃L,L<=b.ds.length+1/\(∀q,GO.cW T w (q+L) (fs.getD i 0) st=match GA.nxt (GA.dos w b.ds st).1 b.ed with
   |none=>(GA.dos w b.ds st,true)
   |some j=>GO.cW T w q (fs.getD j 0) (GA.dos w b.ds st))/\∀q,b.ds.length<=q->(GA.dos w b.ds st).2 <+: (GO.cW T w q (fs.getD i 0) st).1.2
theorem Gz{ns ks:List Str}{w:Int}{us:List Int}{B:List FZ.Blk}{bbs:List (List (List Deed))}(hw:1<=w)(hG:FZ.iW ns w B.length B)(hL:Paired (eQ us) B bbs)(up:∀s,s<3->0<=uN us s):TC B (jd B bbs) (bA bbs) ns ks w:=by
 have hl:=hL.length;have hm:∀bs∈bbs,bs≠[]:=fun bs hbs=>by obtain ⟨i,hi⟩:=zq61.mp hbs;obtain ⟨b,h1,h2⟩:=Paired.getR hL hi;exact (cO up (hG b (zq9 h1)).len h2).1
 refine ⟨hw,fun b hb=>⟨(hG b hb).gd,(hG b hb).len⟩,fun i b st hb hs=>?_⟩;obtain ⟨bs,h1,h2⟩:=Paired.get hL hb;have hi:=(zq10.mp h1).1;have hR:=zH hl hm hb h1;have hg:=(hG b (zq9 hb)).gd;rw [(gk hm hi).1];exact zAC bs.length (vw h2) (fun q=>pe hw h2 hR hs hg q) fun q hq=>vx hw h2 hR hs hg hq
section
variable {F T:List FZ.Blk} {fs:List Nat} {ns ks:List Str} {w:Int} {t0:GA.BT}
structure TD(F T:List FZ.Blk)(fs:List Nat)(ns ks:List Str)(w:Int)(t0 s:GA.BT)(i:Nat)(b:FZ.Blk)(e:Nat)(s0:GA.BT)(C:Nat):Prop where
 fi:F[i]?=some b
 le:e<=b.ds.length
 ds:GA.dos w (b.ds.take e) s0=s
 run:∀m,GO.cW T w (m+C) 0 t0=GO.cW T w m (fs.getD i 0) s0
 bk:BK ns w ks s0.1
theorem oT{b:FZ.Blk}{e:Nat}(h:e<=b.ds.length)(hd:b.ds.drop e=[]):e=b.ds.length:=by have:=congrArg List.length hd;rw [Ax,uK] at this;omega
theorem TD.move(hT:TC F T fs ns ks w){s s0:GA.BT}{i j e C:Nat}{b b':FZ.Blk}(h:TD F T fs ns ks w t0 s i b e s0 C)(he:b.ds.drop e=[])(hn:GA.nxt s.1 b.ed=some j)(hj:F[j]?=some b'):∃C',C'<=C+e+1/\TD F T fs ns ks w t0 s j b' 0 s C':=by
 have el:=oT h.le he;have hd:=h.ds;rw [el,eE] at hd;obtain ⟨L,hL,h1,_⟩:=hT.run i b s0 h.fi h.bk;rw [hd,hn] at h1;refine ⟨C+L,Jy,hj,cm _,rfl,fun m=>?_,?_⟩
 ·rw [show m+(C+L)=m+L+C by omega,h.run,h1]
 ·rw [<- hd];exact BK.dos hT.hw h.bk (hT.gd b (zq9 h.fi)).1
def TI(F T:List FZ.Blk)(fs:List Nat)(ns ks:List Str)(w:Int)(t0:GA.BT)(n:Nat)(s:Stt):Prop:=∃(i:Nat)(b:FZ.Blk)(e:Nat)(s0:GA.BT)(C:Nat),TD F T fs ns ks w t0 (s.bx,s.told) i b e s0 C/\GA.Rep F s.left ⟨b.ds.drop e,b.ed⟩/\C+e<=2 * n/\(1<=e->C+8<=4 * n+4)
theorem TI.stepN(hT:TC F T fs ns ks w){x:Stm}{l:List Stm}{bx:Bx}{tl:List Int}{i e C n:Nat}{b:FZ.Blk}{s0:GA.BT}(h:TD F T fs ns ks w t0 (bx,tl) i b e s0 C)(hr:GA.Rep F (x::l) ⟨b.ds.drop e,b.ed⟩)(hn:¬∃j,(⟨b.ds.drop e,b.ed⟩:FZ.Blk)=⟨[],.go j⟩)(hC:C+e<=2 * n+1)(hd:∀d,x=.deed d->C+8<=4 * n+8):
  TI F T fs ns ks w t0 (n+1) (fM w ⟨x::l,bx,tl⟩):=by
 generalize hc:(⟨b.ds.drop e,b.ed⟩:FZ.Blk)=c at hr hn;have jump:∀{l':List Stm} {nm:Str} {j k:Nat},c=⟨[],.choose nm j k⟩->GA.Rep F l' ⟨[],.go (if aH bx nm≠0 then j else k)⟩->TI F T fs ns ks w t0 (n+1) ⟨l',bx,tl⟩:=by intro l' nm j k ec hr';rw [ec] at hc;have e1:b.ds.drop e=[]:=congrArg FZ.Blk.ds hc;have e2:b.ed=.choose nm j k:=congrArg FZ.Blk.ed hc;obtain ⟨b',h1,h2,_⟩:=hr'.hop rfl;obtain ⟨C',hC',hD⟩:=h.move hT e1 (by rw [e2];rfl) h1;exact zBL _ b' 0 _ C' hD h2 Jy fun z=>by omega
 have loop:∀{nm:Str} {a:List Stm} {c0 c1:FZ.Blk} {i j L:Nat},GA.Way F c0 i->GA.Rep F l c0->F[L]?=some ⟨[],.choose nm j i⟩->GA.kQ F a ⟨[],.go L⟩ c1->GA.Way F c1 j->GA.Rep F (if aH bx nm≠0 then a++.whl nm a::l else l) ⟨[],.go (if aH bx nm≠0 then j else i)⟩:=by
  intro nm a c0 c1 i j L h1 h2 h3 h4 h5
  by_cases z:aH bx nm≠0
  ·rw [if_pos z,if_pos z];exact (GA.Rep.app h4 (.cons (.whl h1 h3 h4 h5) h2)).way h5
  ·rw [if_neg z,if_neg z];exact h2.way h1
 have deed:∀{d:Deed} {r:List Deed} {ed:FZ.Ed},x=.deed d->c=⟨d::r,ed⟩->GA.Rep F l ⟨r,ed⟩->TI F T fs ns ks w t0 (n+1) (fM w ⟨x::l,bx,tl⟩):=by
  intro d r ed ex ec hr';subst ex;rw [ec] at hc;have e1:b.ds.drop e=d::r:=congrArg FZ.Blk.ds hc;have e2:b.ed=ed:=congrArg FZ.Blk.ed hc;have hde:b.ds[e]?=some d:=by have:=congrArg (fun l=>l[0]?) e1;rw [List.getElem?_drop,Nat.add_zero] at this;exact this
  have hlt:=(zq10.mp hde).1;have e3:b.ds.drop (e+1)=r:=by rw [<- List.drop_drop,e1];rfl
  refine zBL i b (e+1) s0 C ⟨h.fi,hlt,?_,h.run,h.bk⟩ ?_ Jy fun _=>by have:=hd d rfl;omega
  ·rw [GA.jV hde,h.ds];rfl
  ·rw [e3,e2];exact hr'
 cases hr with
 |go h1 h2 h3=>exact absurd ⟨_,rfl⟩ hn
 |head w0 h1 hL ha hw=>exact jump rfl (loop w0 h1 hL ha hw)
 | @cons _ _ b1 _ hs h1=>
  cases hs with
  |add=>exact deed rfl rfl h1
  |cut hw=>exact deed rfl rfl (h1.way hw)
  |whl w0 hL ha hw=>exact absurd ⟨_,rfl⟩ hn
  | @ifs nm y z b2 c1 e1 i j k w0 hx wx hy wy=>
   refine jump rfl ?_;show GA.Rep F ((if aH bx nm≠0 then y else z)++l) _
   by_cases q:aH bx nm≠0
   ·rw [if_pos q,if_pos q];exact (GA.Rep.app hx (h1.way w0)).way wx
   ·rw [if_neg q,if_neg q];exact (GA.Rep.app hy (h1.way w0)).way wy
theorem TI.step(hT:TC F T fs ns ks w){s:Stt}{n:Nat}(h:TI F T fs ns ks w t0 n s)(h0:n=0->∀d r,s.left=.deed d::r->∃(i:Nat)(b:FZ.Blk)(s0:GA.BT),TD F T fs ns ks w t0 (s.bx,s.told) i b 0 s0 0/\GA.Rep F s.left ⟨b.ds.drop 0,b.ed⟩/\¬∃j,b=⟨[],.go j⟩):TI F T fs ns ks w t0 (n+1) (fM w s):=by
 obtain ⟨l,bx,tl⟩:=s;obtain ⟨i,b,e,s0,C,hD,hR,hC,h8⟩:=h
 cases l with
 |nil=>exact zBL i b e s0 C hD hR Jy fun z=>by have:=h8 z;omega
 |cons x l=>
  by_cases hz:n=0/\∃d,x=.deed d
  ·obtain ⟨hz,d,hx⟩:=hz;obtain ⟨i,b,s0,g1,g2,g3⟩:=h0 hz d l (by rw [hx]);exact TI.stepN hT g1 g2 (fun ⟨j,z⟩=>g3 ⟨j,z⟩) Jy fun _ _=>by omega
  by_cases hn:∃j,(⟨b.ds.drop e,b.ed⟩:FZ.Blk)=⟨[],.go j⟩
  ·obtain ⟨j,hj⟩:=hn;obtain ⟨b',h1,h2,h3⟩:=hR.hop hj;have e1:b.ds.drop e=[]:=congrArg FZ.Blk.ds hj;have e2:b.ed=.go j:=congrArg FZ.Blk.ed hj;obtain ⟨C',hC',hD'⟩:=hD.move hT e1 (by rw [e2];rfl) h1;refine TI.stepN hT hD' h2 (fun ⟨j,z⟩=>h3 ⟨j,z⟩) Jy fun d hd=>?_;have:n≠0:=fun z=>hz ⟨z,d,hd⟩;omega
  ·exact TI.stepN hT hD hR hn Jy fun d hd=>by
    by_cases z:1<=e
    ·have:=h8 z;omega
    ·omega
end
theorem lO{ss:List Stm}{T:List FZ.Blk}{fs:List Nat}{ns ks:List Str}{w:Int}{b:Bx}{t:List Int}(hT:TC (FZ.aW ss) T fs ns ks w)(h0:fs.getD 0 0=0)(hb:BK ns w ks b):∀n,TI (FZ.aW ss) T fs ns ks w (b,t) n (bL w n ⟨ss,b,t⟩):=by
 obtain ⟨c,h1,h2⟩:=GA.mJ ss;have hD:TD (FZ.aW ss) T fs ns ks w (b,t) (b,t) 0 c 0 (b,t) 0:=⟨h1,cm _,rfl,fun m=>by rw [h0];rfl,hb⟩
 have base:TI (FZ.aW ss) T fs ns ks w (b,t) 0 ⟨ss,b,t⟩:=zBL 0 c 0 (b,t) 0 hD h2 (zq0 _) fun z=>by omega
 intro n
 induction n with
 |zero=>exact base
 |succ n ih=>
  refine TI.step hT ih fun hn d r hl=>?_;subst hn;refine zAN 0 c (b,t) hD h2 ?_;have e0:FZ.aW ss=(FZ.aS ss ⟨[],.stop⟩ [⟨[],.stop⟩]).2.set 0 (FZ.aS ss ⟨[],.stop⟩ [⟨[],.stop⟩]).1:=rfl;have hl:ss=.deed d::r:=hl;rintro ⟨j,rfl⟩;have g:=FZ.bz ss ⟨[],.stop⟩ [⟨[],.stop⟩];rw [e0,Av (by have:=g.1;rw [c9] at this;omega)] at h1;have h1:=Option.some.inj h1;subst hl;rw [FZ.aS,FZ.bR] at h1
  split at h1
  ·have:=congrArg FZ.Blk.ds h1;cases this
  ·have:=congrArg FZ.Blk.ds h1;cases this
section
variable {ss:List Stm} {T:List FZ.Blk} {fs:List Nat} {ns ks:List Str} {w:Int} {b:Bx} {t:List Int} {n m:Nat}
theorem wq(hT:TC (FZ.aW ss) T fs ns ks w)(h0:fs.getD 0 0=0)(hb:BK ns w ks b)(h:(bL w n ⟨ss,b,t⟩).left=[])(hm:2 * n+2<=m):GO.cW T w m 0 (b,t)=(((bL w n ⟨ss,b,t⟩).bx,(bL w n ⟨ss,b,t⟩).told),true):=by
 obtain ⟨i,c,e,s0,C,hD,hR,hC,_⟩:=lO (t:=t) hT h0 hb n;generalize bL w n ⟨ss,b,t⟩=s at *;have fin:∀{i:Nat} {c:FZ.Blk} {e C:Nat} {s0:GA.BT},TD (FZ.aW ss) T fs ns ks w (b,t) (s.bx,s.told) i c e s0 C->c.ds.drop e=[]->c.ed=.stop->C+e+1<=m->GO.cW T w m 0 (b,t)=((s.bx,s.told),true):=by intro i c e C s0 hD hd he hm;have el:=oT hD.le hd;have hs:=hD.ds;rw [el,eE] at hs;obtain ⟨L,hL,h1,_⟩:=hT.run i c s0 hD.fi hD.bk;have z:=hD.run (m-C-L+L);rw [h1,he,hs,show m-C-L+L+C=m by omega] at z;exact z
 rw [h] at hR;generalize hc:(⟨c.ds.drop e,c.ed⟩:FZ.Blk)=c' at hR
 cases hR with
 |nil=>exact fin hD (congrArg FZ.Blk.ds hc) (congrArg FZ.Blk.ed hc) Jy
 | @go _ b' j h1 h2 h3=>
  have e1:c.ds.drop e=[]:=congrArg FZ.Blk.ds hc;have e2:c.ed=.go j:=congrArg FZ.Blk.ed hc;obtain ⟨C',hC',hD'⟩:=hD.move hT e1 (by rw [e2];rfl) h2
  cases h1 with
  |nil=>exact fin hD' rfl rfl Jy
  |go=>exact absurd ⟨_,rfl⟩ h3
theorem wt(hT:TC (FZ.aW ss) T fs ns ks w)(h0:fs.getD 0 0=0)(hb:BK ns w ks b)(hm:4 * n+4<=m):(bL w n ⟨ss,b,t⟩).told <+: (GO.cW T w m 0 (b,t)).1.2:=by
 obtain ⟨i,c,e,s0,C,hD,hR,hC,h8⟩:=lO (t:=t) hT h0 hb n;generalize bL w n ⟨ss,b,t⟩=s at *;have z:=hD.run (m-C);rw [show m-C+C=m by omega] at z;rw [z];have ds:=hD.ds
 by_cases he:1<=e
 ·obtain ⟨L,hL,_,h1⟩:=hT.run i c s0 hD.fi hD.bk;have hl:=(hT.gd c (zq9 hD.fi)).2;have h2:=h1 (m-C) (by have:=h8 he;omega);refine List.IsPrefix.trans ?_ h2;have app:GA.dos w c.ds s0=GA.dos w (c.ds.drop e) (GA.dos w (c.ds.take e) s0):=by
   have app:∀(l m:List Deed)(s:GA.BT),GA.dos w (l++m) s=GA.dos w m (GA.dos w l s):=by
    intro l
    induction l with
    |nil=>intro m s;rfl
    |cons x r ih=>intro m s;exact ih m _
   rw [<- app,Am]
  rw [app,ds];exact GA.oS (s:=(s.bx,s.told))
 ·obtain rfl:e=0:=by omega
  have e1:s0=(s.bx,s.told):=ds;rw [e1];exact gE (s:=(s.bx,s.told))
end
variable {H:Hp}
def StV(K:W.Frag)(H:Hp)(x:V)(b:FZ.Blk):Prop:=∃q a e vs,x=.ref q/\SqT K H q [.ref a,.ref e]/\H a=some (.lst vs)/\Paired (DeedV1 K H) vs b.ds/\SqT K H e (fj b.ed)
theorem StV.same{K:W.Frag}{H':Hp}{x:V}{b:FZ.Blk}(h:StV K H x b)(s:Same H H'):StV K H' x b:=by obtain ⟨q,a,e,vs,ex,h1,h2,h3,h4⟩:=h;exact zAM q a e vs ex (s.seqT h1) (s _ _ h2) (FL.Paired.imp h3 fun y _ d _ ⟨q,e,z,f⟩=>zAC q e (s.seqT z) f) (s.seqT h4)
def TabV(K:W.Frag)(H:Hp)(tb:Addr)(F:List FZ.Blk):Prop:=∃xs,H tb=some (.lst xs)/\Paired (StV K H) xs F
theorem TabV.same{K:W.Frag}{H':Hp}{tb:Addr}{F:List FZ.Blk}(h:TabV K H tb F)(s:Same H H'):TabV K H' tb F:=by obtain ⟨xs,h1,h2⟩:=h;exact zn xs (s _ _ h1) (FL.Paired.imp h2 fun y _ d _ z=>z.same s)
theorem TabV.at{K:W.Frag}{tb:Addr}{F:List FZ.Blk}(h:TabV K H tb F){i:Nat}{b:FZ.Blk}(hb:F[i]?=some b):∃xs x,H tb=some (.lst xs)/\xs[i]?=some x/\StV K H x b:=by obtain ⟨xs,h1,h2⟩:=h;obtain ⟨x,hx,hv⟩:=Paired.getR h2 hb;exact zAA xs x h1 hx hv
def kj(b:Bx)(e:FZ.Ed):V:=match GA.nxt b e with
 |none=>.non
 |some j=>.int j
def sO(K:W.Frag)(e bx:Addr)(H:Hp)(Q:VK):Prop:=∃(ed:FZ.Ed)(b:Bx)(ns:List Str)(w:Int),SqT K H e (fj ed)/\H bx=some (.dK b)/\BxG ns w b/\(∀n i j,ed=.choose n i j->n∈ns)/\Q (kj b ed) H
def ur(K:W.Frag):Sp:=fun vs H Q _=>∃e bx:Addr,vs=[.ref e,.ref bx]/\sO K e bx H Q
theorem yS{e bx:Addr}{Q:VK}{E:XK}:ur K [.ref e,.ref bx] H Q E=sO K e bx H Q:=propext ⟨by rintro ⟨_,_,e,q⟩;cases e;exact q,fun q=>zAD _ _ rfl q⟩
theorem Bo(T:Txt K mg t):FnOk P w K mg base CX0 1 t.f_120 t.e_120 ["ending","boxes"] (ur K):=by
 refine T.d_120.F.ok Ga ∅ ?_;rintro cdv A outer s H vs Q E hr ⟨e,bx,rfl,ed,b,ns,w,hq,hb,hG,hn,q⟩;have hu:=dE hr;refine ⟨_,
   (XSs.h
   (ai
    (aG (ap aZ (aq az (yqv 0 vl) aj) aF (aA _))
     (ak
      (aw (aq az (yqv 0 vl) aj)))
     aD)
   (ai
    (aG (ap aZ (aq az (yqv 0 vl) aj) aF (aA _))
     (ak
      (aw (cH (ap me (cE hu (yqv 1 vl) (aq az (yqv 0 vl) aj) (fun _ _=>rfl)) aj (aA _)) (aq az (yqv 0 vl) aj) (aq az (yqv 0 vl) aj))))
     aD)
   (ak
    (aw d5))))),?_⟩
 rw [show aP _ [V.ref e,V.ref bx]=[some (.ref e),some (.ref bx)] from rfl];rwa []
 cases ed with
 |stop=>
  refine zAA _ _ hq rfl ?_;rwa [];refine aB (fun z=>absurd z Jv) (fun _=>zAE _ _ hq rfl rfl (zn _ rfl ?_));refine aB (fun z=>absurd z Jv) (fun _=>q)
 |go i=>
  refine zAA _ _ hq rfl ?_;rwa [];exact aB (fun _=>zAA _ _ hq rfl q) (fun z=>absurd trivial z)
 |choose n i j=>
  refine zAA _ _ hq rfl ?_;rwa [];refine aB (fun z=>absurd z Jv) (fun _=>zAE _ _ hq rfl rfl (zn _ rfl ?_));refine aB (fun _=>zAA _ _ hq rfl (zAA bx _ rfl (.inl (zAA b (.inr n) (.inl hb) rfl (hG.val (hn n i j rfl)).symm)) ?_)) (fun z=>absurd rfl z);have e:kj b (.choose n i j)=if aH b n≠0 then V.int i else .int j:=by
   unfold kj GA.nxt;dsimp only
   by_cases h:aH b n=0
   ·rw [if_neg (fun z=>z h),if_neg (fun z=>z h)]
   ·rw [if_pos h,if_pos h]
  rw [e] at q;rwa [];refine fS (fun h=>?_) (fun h=>?_)
  ·rw [if_pos h] at q;exact zAA _ _ hq rfl q
  ·rw [if_neg (fun z=>z h)] at q;exact zAA _ _ hq rfl q
variable {H:Hp} {p:Addr}
theorem pL{f:Str}{v:V}:∀fs:List (Str×V),(dc f v fs).length<=fs.length+1
 | []=>zq0 _
 | (g,x)::r=>by
  rw [dc]
  split
  ·exact Aw _
  ·rw [cJ,cJ];have:=pL (f:=f) (v:=v) r;omega
def sd(wd:Int)(tb bx td:Addr)(pl:V):List (Str×V):=[("width",.int wd),("table",.ref tb),("boxes",.ref bx),("told",.ref td),("place",pl)]
structure TRunH(C:Addr)(H0 H:Hp)(p tb bx td:Addr)(wd:Int)(pl:V)(s:GA.BT):Prop where
 same:Same H0 H
 ob:∃dx,H p=some (.ins C dx (sd wd tb bx td pl))
 bxs:H bx=some (.dK s.1)
 tds:H td=some (.lst (s.2.map V.int))
 fr:H0 p=none/\H0 bx=none/\H0 td=none
theorem TRunH.mv{C tb bx td:Addr}{H0 H':Hp}{wd:Int}{pl:V}{s:GA.BT}(h:TRunH C H0 H p tb bx td wd pl s)(sm:Same H H'):TRunH C H0 H' p tb bx td wd pl s:=
 ⟨h.same.trans sm,let ⟨dx,e⟩:=h.ob;⟨dx,sm _ _ e⟩,sm _ _ h.bxs,sm _ _ h.tds,h.fr⟩
def oq(K:W.Frag)(C CP:Addr)(p pp tb c:Addr)(H:Hp)(Q:VK):Prop:=∃(H0:Hp)(dx:Addr)(wd:Int)(ins oth:List Str)(ss:List Stm)(a b r:Addr)(xs:List V)(f:List Addr)(ws:Bx),Same H0 H/\H0 p=none/\H p=some (.ins C dx [])/\ProgAt K CP H0 pp wd ins oth ss a b r xs f/\WordsIn H0 c ws ins wd/\(ins++oth).length<=1000/\
 ∀bx td H',TRunH C H0 H' p tb bx td wd (.int 0) (aV ins ws (ins++oth),[])->Q .non H'
def qh(K:W.Frag)(C CP:Addr):Sp:=fun vs H Q _=>∃(p pp tb c:Addr),vs=[.ref p,.ref pp,.ref tb,.ref c]/\oq K C CP p pp tb c H Q
structure StG(ns:List Str)(wd:Int)(b:FZ.Blk):Prop where
 gd:∀d∈b.ds,Deed.good ns wd d
 nm:∀n i j,b.ed=.choose n i j->n∈ns
 len:b.ds.length<=60
def lE(K:W.Frag)(C:Addr)(p:Addr)(H:Hp)(Q:VK):Prop:=∃(H0:Hp)(tb bx td:Addr)(wd:Int)(i:Nat)(s:GA.BT)(F:List FZ.Blk)(b:FZ.Blk)(ns:List Str),TRunH C H0 H p tb bx td wd (.int i) s/\TabV K H0 tb F/\F[i]?=some b/\StG ns wd b/\BxG ns wd s.1/\1<=wd/\wd<=8/\s.2.length<=1000000/\
 ∀bx' H',TRunH C H0 H' p tb bx' td wd (kj s.1 b.ed) (GO.beat wd s.1 b.ds s)->Q .non H'
def mr(K:W.Frag)(C:Addr):Sp:=fun vs H Q _=>∃(p:Addr),vs=[.ref p]/\lE K C p H Q
theorem ua{C CP pp tb c:Addr}{Q:VK}{E:XK}:qh K C CP [.ref p,.ref pp,.ref tb,.ref c] H Q E=oq K C CP p pp tb c H Q:=propext ⟨by rintro ⟨_,_,_,_,e,q⟩;cases e;exact q,fun q=>zAP _ _ _ _ rfl q⟩
theorem ku{C:Addr}{Q:VK}{E:XK}:mr K C [.ref p] H Q E=lE K C p H Q:=propext ⟨by rintro ⟨_,e,q⟩;cases e;exact q,fun q=>zn _ rfl q⟩
theorem yf(T:Txt K mg t):FnOk P w K mg base CX0 2 t.f_140 t.e_140 ["self","program","table","words"] (qh K t.C_TableRun t.C_Program):=by
 have G_129:=@pF P w K mg base t T;refine T.d_140.F.ok Gj ∅ ?_;rintro cdv A outer s H vs Q E hr ⟨p,pp,tb,c,rfl,H0,dx,wd,ins,oth,ss,a,b,r,xs,f,ws,s0,hp0,hp,hP,hW,hl,q⟩;refine ⟨_,
   (XSs.h
   (ai
    (bI (yqv 0 vl) (aM (yqv 1 vl) rfl) rfl)
   (ai
    (bI (yqv 0 vl) (yqv 2 vl) rfl)
   (ai
    (bI (yqv 0 vl) (ax T.d_129 G_129 hr.m (aa (yqv 1 vl) (aa (yqv 3 vl) ae)) gl) rfl)
   (ai
    (bI (yqv 0 vl) (aN ae) rfl)
   (ak
    (bI (yqv 0 vl) aj rfl))))))),?_⟩
 rw [show aP _ [V.ref p,V.ref pp,V.ref tb,V.ref c]=[some (.ref p),some (.ref pp),some (.ref tb),some (.ref c)] from rfl];simp_arith! [iK];obtain ⟨dxp,hob⟩:=hP.ob;refine bZ (s0 _ _ hob) T.c_Program.cl T.n_Program_width rfl (fk hp T.c_TableRun.cl T.n_TableRun_width Jz ?_);rw [bN JA,qM];have s1:=s0.updM (o:=.ins t.C_TableRun dx [("width",V.int wd)]) hp0;have e1:upd H p (.ins t.C_TableRun dx [("width",V.int wd)]) p=some (.ins t.C_TableRun dx [("width",V.int wd)]):=ac;generalize upd H p (.ins t.C_TableRun dx [("width",V.int wd)])=H1 at s1 e1 ⊢;refine later ?_;simp_arith! [];refine fk e1 T.c_TableRun.cl T.n_TableRun_table Jz ?_;rw [bN Jw];have s2:=s1.updM (o:=.ins t.C_TableRun dx ([(("width":Str),V.int wd)]++[(("table":Str),V.ref tb)])) hp0;have e2:upd H1 p (.ins t.C_TableRun dx ([(("width":Str),V.int wd)]++[(("table":Str),V.ref tb)])) p=some (.ins t.C_TableRun dx ([(("width":Str),V.int wd)]++[(("table":Str),V.ref tb)])):=ac;generalize upd H1 p (.ins t.C_TableRun dx ([(("width":Str),V.int wd)]++[(("table":Str),V.ref tb)]))=H2 at s2 e2 ⊢;refine later ?_;simp_arith! [iK];refine zBK wd ins oth ss a b r xs f ws (zAG (hP.same s2) (hW.same s2) hl fun bx H4 s4 hbx gb=>?_);refine fk (s4 _ _ e2) T.c_TableRun.cl T.n_TableRun_boxes Jz ?_;rw [bN Jw];have nbx:bx≠p:=(am e2 hbx).symm;have fb:=s2.free hbx;have s5:=(s2.trans s4).updM (o:=.ins t.C_TableRun dx ([(("width":Str),V.int wd)]++[(("table":Str),V.ref tb)]++[(("boxes":Str),V.ref bx)])) hp0;have e5:upd H4 p (.ins t.C_TableRun dx ([(("width":Str),V.int wd)]++[(("table":Str),V.ref tb)]++[(("boxes":Str),V.ref bx)])) p=some (.ins t.C_TableRun dx ([(("width":Str),V.int wd)]++[(("table":Str),V.ref tb)]++[(("boxes":Str),V.ref bx)])):=ac;have b5:upd H4 p (.ins t.C_TableRun dx ([(("width":Str),V.int wd)]++[(("table":Str),V.ref tb)]++[(("boxes":Str),V.ref bx)])) bx=some (.dK (aV ins ws (ins++oth))):=by rw [ao nbx];exact gb
 generalize upd H4 p (.ins t.C_TableRun dx ([(("width":Str),V.int wd)]++[(("table":Str),V.ref tb)]++[(("boxes":Str),V.ref bx)]))=H5 at s5 e5 b5 ⊢;refine later ?_;simp_arith! [];intro td htd;have ntd:p≠td:=am e5 htd;have ft:=s5.free htd;have s6:=Same.upd (o:=.lst []) htd;refine fk (s6 _ _ e5) T.c_TableRun.cl T.n_TableRun_told Jz ?_;rw [bN Jw];refine later ?_;rwa [];refine fk ac T.c_TableRun.cl T.n_TableRun_place Jz ?_;rw [bN Jw];refine q bx td _ ⟨((s5.trans s6).updM hp0).updM hp0,⟨dx,ac⟩,?_,?_,zAB hp0 fb ft⟩
 ·rw [ao nbx,ao nbx];exact s6 _ _ b5
 ·rw [ao ntd.symm,ao ntd.symm];exact ac
theorem vI(T:Txt K mg t):FnOk P w K mg base CX0 4 t.f_141 t.e_141 ["self"] (mr K t.C_TableRun):=by
 have G_119:=@tK P w K mg base t T;have G_116:=@fz P w K mg base t T;have G_120:=@Bo P w K mg base t T;refine T.d_141.F.ok sc_141 ∅ ?_;rintro cdv A outer s H vs Q E hr ⟨p,rfl,H0,tb,bx,td,wd,i,st,F,blk,ns,hR,hT,hF,hS,hG,w1,w8,hl,q⟩;have hu:=dE hr;refine ⟨_,
   (XSs.h
   (ai
    (au (i:=1) sc_141.nd rfl ll (aq b7 (aM (yqv 0 vl) rfl) (aM (yqv 0 vl) rfl)))
   (ai
    (au (i:=2) sc_141.nd rfl ll (ck mK gl T.z_dict boot_dict (aa (aM (yqv 0 vl) rfl) ae)))
   (c7
    (bG PassesOwn.never rfl (bc (aq az (yqv 1 vl) aj)) (aC (i:=3) sc_141.nd rfl ll)
     (ai
      (au (i:=4) sc_141.nd rfl ll (ax T.d_119 G_119 hr.m (aa (yqv 3 vl) (aa (aM (yqv 0 vl) rfl) (aa (aM (yqv 0 vl) rfl) ae))) gl))
     (ai
      (au (i:=5) sc_141.nd rfl ll (ax T.d_116 G_116 hr.m (aa (yqv 3 vl) ae) gl))
     (ak
      (aG (ap rE (yqv 5 vl) d5 (aA _))
       (ak
        (aR (cg PySem.F.plainAttrs_list PySem.F.slot_list_append PySem.F.type_list_append bg (aM (yqv 0 vl) rfl) (aa (yqv 4 vl) ae))))
       (ak
        (dz hu (yqv 2 vl) (yqv 5 vl) (yqv 4 vl) rfl)))))))
   (ai
    (bI (yqv 0 vl) (ax T.d_120 G_120 hr.m (aa (aq az (yqv 1 vl) aj) (aa (aM (yqv 0 vl) rfl) ae)) gl) rfl)
   (ak
    (bI (yqv 0 vl) (yqv 2 vl) rfl))))))),?_⟩
 rw [show aP _ [V.ref p]=[some (.ref p),none,none,none,none,none] from rfl];simp_arith! [];obtain ⟨dx,e⟩:=hR.ob;obtain ⟨xs,x,hxs,hx,qs,da,ea,vs,rfl,v1,v2,v3,v4⟩:=hT.at hF;refine bZ e T.c_TableRun.cl T.n_TableRun_table rfl (bZ e T.c_TableRun.cl T.n_TableRun_place rfl ?_);simp_arith! [];refine zAA _ _ (SqL.of (hR.same _ _ hxs)) (cf hx) ?_;refine later ?_;simp_arith! [];refine bZ e T.c_TableRun.cl T.n_TableRun_boxes rfl (zAA _ _ rfl (.inl hR.bxs) fun af haf=>?_);have t1:=Same.upd (o:=.dK st.1) haf;have naf:bx≠af:=am hR.bxs haf;have npf:p≠af:=am e haf;have ntf:td≠af:=am hR.tds haf;have hR1:=hR.mv t1;have eaf:upd H af (.dK st.1) af=some (.dK st.1):=ac;have faf:=hR.same.free haf;have e1:=t1 _ _ e;generalize upd H af (.dK st.1)=H1 at t1 hR1 eaf e1 ⊢;refine later ?_;simp_arith! [ky,cU];have lv:=v3.length;have hlen:=hS.len;have few:=hG.few;refine ⟨fun σ H'=>Same H0 H'/\H' p=some (.ins t.C_TableRun dx (sd wd tb bx td (.int i)))/\H' bx=some (.dK st.1)/\H' af=some (.dK (GO.beat wd st.1 blk.ds st).1)/\H' td=some (.lst ((GO.beat wd st.1 blk.ds st).2.map V.int))/\∃o3 o4 o5,σ=[some (.ref p),some (.ref qs),some (.ref af),o3,o4,o5],?_,?_⟩
 ·refine zAA _ _ (hR1.same.seqT v1) rfl (zAC _ rfl ⟨_,SqL.of (hR1.same _ _ v2)⟩ ?_);refine dk (xs:=vs) (fun j σ H'=>Same H0 H'/\H' p=some (.ins t.C_TableRun dx (sd wd tb bx td (.int i)))/\H' bx=some (.dK st.1)/\BxG ns wd (GO.beat wd st.1 (blk.ds.take j) st).1/\H' af=some (.dK (GO.beat wd st.1 (blk.ds.take j) st).1)/\H' td=some (.lst ((GO.beat wd st.1 (blk.ds.take j) st).2.map V.int))/\∃o3 o4 o5,σ=[some (.ref p),some (.ref qs),some (.ref af),o3,o4,o5])
   (zAR hR1.same e1 hR1.bxs hG eaf hR1.tds (zAH _ _ _ rfl)) (fun j σ H' _ h=>SqL.of (h.1 _ _ v2)) ?_ ?_
  ·rintro j y σ H2 hy ⟨s2,ep,eb,gb,ef,et,o3,o4,o5,rfl⟩;obtain ⟨d,hd,q0,rfl,hq0,hf⟩:=Paired.get v3 hy;have hgd:=hS.gd d (zq9 hd);have hl2:=GO.il (w:=wd) (b0:=st.1) (ds:=blk.ds.take j) (s:=st);have lt:(blk.ds.take j).length<=blk.ds.length:=by rw [dS];exact Nat.min_le_right ..
   have few2:=gb.few;rwa [ky,cU];refine bZ ep T.c_TableRun.cl T.n_TableRun_boxes rfl (bZ ep T.c_TableRun.cl T.n_TableRun_width rfl ?_);rw [ky];refine zAH d st.1 ns (zBF (s2.seqT hq0) eb hG hf hgd w1 w8 fun H3 s3=>?_);have s23:=s2.trans s3;refine zAC d (s23.seqT hq0) hf ?_;rw [GO.lH hd];have gb3:=GO.BxG.atB hG gb hgd w1
   cases d with
   |tell o=>
    refine aB (fun _=>bZ (s3 _ _ ep) T.c_TableRun.cl T.n_TableRun_told rfl ⟨.inl ⟨rfl,_,SqL.of (s3 _ _ et)⟩,zAL td _ _ rfl rfl (s3 _ _ et) (by rw [zq1,sizeLine_eq];omega) ?_⟩) (fun z=>absurd rfl z);have npt:p≠td:=bw (s3 _ _ ep) (s3 _ _ et) (by intro z;cases z);have nbt:bx≠td:=bw (s3 _ _ eb) (s3 _ _ et) (by intro z;cases z);refine zAR (s23.updM hR.fr.2.2) (by rw [ao npt];exact s3 _ _ ep) (by rw [ao nbt];exact s3 _ _ eb) gb3 (by rw [ao ntf.symm];exact s3 _ _ ef) ?_ (zAH _ _ _ rfl);show upd H3 td _ td=some (.lst (List.map V.int ((GO.beat wd st.1 (blk.ds.take j) st).2++[cR st.1 wd (.tell o)])));rw [ac,cy];rfl
   |copy n o=>
    refine aB (fun z=>absurd z (by intro z;cases z)) (fun _=>zn _ (DPut.k (k:=.inr n) (s3 _ _ ef) (by rw [sizeLine_eq];omega)) ?_);exact zAR (s23.updM faf) (by rw [ao npf];exact s3 _ _ ep) (by rw [ao naf];exact s3 _ _ eb) gb3 ac (by rw [ao ntf];exact s3 _ _ et) (zAH _ _ _ rfl)
   |op g n o o2=>refine aB (fun z=>absurd z (by intro z;cases z)) (fun _=>zn _ (DPut.k (k:=.inr n) (s3 _ _ ef) (by rw [sizeLine_eq];omega)) ?_);exact zAR (s23.updM faf) (by rw [ao npf];exact s3 _ _ ep) (by rw [ao naf];exact s3 _ _ eb) gb3 ac (by rw [ao ntf];exact s3 _ _ et) (zAH _ _ _ rfl)
  ·rintro σ H2 ⟨s2,ep,eb,gb,ef,et,o3,o4,o5,rfl⟩;rw [lv,eE] at ef et;exact zAQ s2 ep eb ef et (zAH _ _ _ rfl)
 rintro σ H2 ⟨s2,ep,eb,ef,et,o3,o4,o5,rfl⟩;refine later ?_;simp_arith! [yS];refine zAA _ _ (s2.seqT v1) rfl ?_;refine bZ ep T.c_TableRun.cl T.n_TableRun_boxes rfl ?_;rw [yS];refine zAM blk.ed st.1 ns wd (s2.seqT v4) eb hG hS.nm ?_;refine fk ep T.c_TableRun.cl T.n_TableRun_place (by simp [sd]) ?_;refine later ?_;rwa [];refine fk ac T.c_TableRun.cl T.n_TableRun_boxes (Az (pL _) (show 5+1<1000 by decide)) ?_;have npt:p≠td:=bw ep et (by intro z;cases z);have npf2:p≠af:=bw ep ef (by intro z;cases z);refine q af _ ⟨(s2.updM hR.fr.1).updM hR.fr.1,⟨dx,?_⟩,?_,?_,zAB hR.fr.1 faf hR.fr.2.2⟩
 ·rw [ac];have:dc "boxes" (V.ref af) (dc "place" (kj st.1 blk.ed) (sd wd tb bx td (.int i)))=sd wd tb af td (kj st.1 blk.ed):=by
   unfold sd
   kernel_rfl
  rw [this]
 ·rw [ao npf2.symm,ao npf2.symm];exact ef
 ·rw [ao npt.symm,ao npt.symm];exact et
variable {b:Bx}
structure E4(ns:List Str)(wd:Int)(F:List FZ.Blk):Prop where
 st:∀b∈F,StG ns wd b
 tg:∀b∈F,∀j∈b.ed.tg,j<F.length
 pos:0<F.length
def lG(K:W.Frag)(C:Addr)(pp tb c:Addr)(m:Int)(H:Hp)(Q:VK):Prop:=∃(wd:Int)(ins oth:List Str)(ss:List Stm)(a b r:Addr)(xs:List V)(f:List Addr)(ws:Bx)(F:List FZ.Blk),ProgAt K C H pp wd ins oth ss a b r xs f/\WordsIn H c ws ins wd/\1<=wd/\wd<=8/\(ins++oth).length<=1000/\TabV K H tb F/\E4 (ins++oth) wd F/\m<=2100/\
 ∀p td bx H',Same H H'->H td=none->H bx=none->H' p=some (.tup [.ref td,.ref bx,.bl (GO.cW F wd m.toNat 0 (aV ins ws (ins++oth),[])).2])->H' td=some (.lst ((GO.cW F wd m.toNat 0 (aV ins ws (ins++oth),[])).1.2.map V.int))->H' bx=some (.dK (GO.cW F wd m.toNat 0 (aV ins ws (ins++oth),[])).1.1)->Q (.ref p) H'
def mw(K:W.Frag)(C:Addr):Sp:=fun vs H Q _=>∃(pp tb c:Addr)(m:Int),vs=[.ref pp,.ref tb,.ref c,.int m]/\lG K C pp tb c m H Q
theorem GT{e:FZ.Ed}{j:Nat}(h:GA.nxt b e=some j):j∈e.tg:=by
 cases e with
 |stop=>cases h
 |go i=>cases h;exact zq2.mpr rfl
 |choose n x y=>
  unfold GA.nxt at h
  cases h
  show (if aH b n≠0 then x else y)∈[x,y]
  split<;>simp
theorem xU{e:FZ.Ed}(h:GA.nxt b e=none):kj b e=.non:=by unfold kj;rw [h]
theorem xT{e:FZ.Ed}{j:Nat}(h:GA.nxt b e=some j):kj b e=.int j:=by unfold kj;rw [h]
theorem yV{C pp tb c:Addr}{m:Int}{H:Hp}{Q:VK}{E:XK}:mw K C [.ref pp,.ref tb,.ref c,.int m] H Q E=lG K C pp tb c m H Q:=propext ⟨by rintro ⟨_,_,_,_,e,q⟩;cases e;exact q,fun q=>zAP _ _ _ _ rfl q⟩
theorem vK(T:Txt K mg t):FnOk P w K mg base CX0 6 t.f_142 t.e_142 ["program","table","words","most"] (mw K t.C_Program):=by
 have G_140:=@yf P w K mg base t T;have G_141:=@vI P w K mg base t T;refine T.d_142.F.ok sc_142 ∅ ?_;rintro cdv A outer s H vs Q E hr ⟨pp,tb,c,m,rfl,wd,ins,oth,ss,a,b,r,xs,f,ws,F,hP,hW,w1,w8,hl,hT,hF,hm,q⟩;refine ⟨_,
   (XSs.h
   (ai
    (au (i:=4) sc_142.nd rfl ll (gK T.c_TableRun T.d_140 G_140 hr.m (aa (yqv 0 vl) (aa (yqv 1 vl) (aa (yqv 2 vl) ae))) gl))
   (ai
    (au (i:=5) sc_142.nd rfl ll aj)
   (ai
    (eZ PassesOwn.never (cw (cI (ap g9 (yqv 5 vl) (yqv 3 vl) (aA _)) (cr (ap iF (aM (yqv 4 vl) rfl) d5 (aA _)))))
     (ai
      (aR (dg T.c_TableRun.cl T.d_141 G_141 hr.m (yqv 4 vl)))
     (ak
      (au (i:=5) sc_142.nd rfl ll (av bo (yqv 5 vl) aj)))))
   (ak
    (aw (aI (aa (aM (yqv 4 vl) rfl) (aa (aM (yqv 4 vl) rfl) (aa (bP rE (aM (yqv 4 vl) rfl) d5 (aA _)) ae)))))))))),?_⟩
 rw [show aP _ [V.ref pp,V.ref tb,V.ref c,V.int m]=[some (.ref pp),some (.ref tb),some (.ref c),some (.int m),none,none] from rfl];rwa [ua,ku];intro p dx hp hdx hne;have s1:Same H (upd (upd H dx (.own p)) p (.ins t.C_TableRun dx [])):=(Same.upd hdx).updM hp;simp only [ua];refine ⟨H,dx,wd,ins,oth,ss,a,b,r,xs,f,ws,s1,hp,ac,hP,hW,hl,fun bx td H1 hR=>⟨rfl,?_⟩⟩;obtain ⟨st0,est⟩:∃st0:GA.BT,st0=(aV ins ws (ins++oth),[]):=⟨_,rfl⟩
 have hb0:BxG (ins++oth) wd st0.1:=by rw [est];exact fQ hW.get hl
 have hst:st0.2.length<=60 * 0:=by rw [est];exact zq0 _
 rw [<- est] at hR q;generalize hRR:GO.cW F wd m.toNat 0 st0=R at q;refine gH (fun σ H'=>∃(k:Nat)(bx:Addr)(s:GA.BT)(pl:V),(k:Int)<=max m 0/\TRunH t.C_TableRun H H' p tb bx td wd pl s/\BxG (ins++oth) wd s.1/\s.2.length<=60 * k/\((∃i:Nat,pl=.int i/\i<F.length/\R=GO.cW F wd (m.toNat-k) i s)\/(pl=.non/\R=(s,true)))/\σ=[some (.ref pp),some (.ref tb),some (.ref c),some (.int m),some (.ref p),some (.int k)])
  (fun (σ:L2.St) H'=>match (σ[5]?).join with | some (V.int i)=>(m-i).toNat | _=>0) (zBA 0 bx _ _ Jy hR hb0 hst (.inl (zAC 0 rfl hF.pos hRR.symm)) rfl) ?_
 rintro σ H2 ⟨k,bx2,s2,pl,hk,hR2,hG2,hl2,hpl,rfl⟩;rwa [ku];have fin:R=(s2,decide (pl=.non))->i5 K (V.ref p) "told" H2 fun x H1=>i5 K (V.ref p) "boxes" H1 fun x_1 H1=>i5 K (V.ref p) "place" H1 fun x_2 H1=>∀(p:Addr),H1 p=none->Q (V.ref p) (upd H1 p (HO.tup [x,x_1,V.bl (decide (x_2=.non))])):=by intro he;obtain ⟨dx3,e3⟩:=hR2.ob;refine bZ e3 T.c_TableRun.cl T.n_TableRun_told rfl (bZ e3 T.c_TableRun.cl T.n_TableRun_boxes rfl (bZ e3 T.c_TableRun.cl T.n_TableRun_place rfl fun u hu=>?_));have s5:=Same.upd (o:=.tup [V.ref td,V.ref bx2,V.bl (decide (pl=.non))]) hu;rw [he] at q;exact q u td bx2 _ (hR2.same.trans s5) hR2.fr.2.2 hR2.fr.2.1 ac (s5 _ _ hR2.tds) (s5 _ _ hR2.bxs)
 have mint:∀i:Nat,decide (V.int i=V.non)=false:=fun i=>rfl;refine aB (fun h1=>?_) (fun h1=>?_)
 ·obtain ⟨dx2,e2⟩:=hR2.ob;refine bZ e2 T.c_TableRun.cl T.n_TableRun_place rfl ?_;rcases hpl with ⟨i,rfl,hi,eR⟩ | ⟨rfl,eR⟩
  ·rw [mint];rwa [ku];obtain ⟨blk,hblk⟩:∃blk,F[i]?=some blk:=⟨_,zq8 hi⟩
   have hmem:=zq9 hblk;have hsg:=hF.st blk hmem;rw [show m.toNat-k=m.toNat-(k+1)+1 by omega,GO.gD hblk] at eR;obtain ⟨hG3,_⟩:=GO.BxG.beat hG2 w1 hG2 hsg.gd;have hl3:=GO.il (w:=wd) (b0:=s2.1) (ds:=blk.ds) (s:=s2);have hsl:=hsg.len;rw [if_pos trivial];refine ⟨fun σ' H'=>∃(bx:Addr),TRunH t.C_TableRun H H' p tb bx td wd (kj s2.1 blk.ed) (GO.beat wd s2.1 blk.ds s2)/\σ'=[some (V.ref pp),some (V.ref tb),some (V.ref c),some (V.int m),some (V.ref p),some (V.int (k+1))],?_,?_⟩
   ·rintro σ' H' ⟨bx',hRj,rfl⟩;refine zAC _ ?_ rfl (zBA (k+1) bx' _ _ Jy hRj hG3 Jy ?_ rfl)
    ·show (m-((k:Int)+1)).toNat<(m-(k:Int)).toNat;omega
    ·unfold GO.tR at eR
     cases e:GA.nxt s2.1 blk.ed with
     |none=>
      rw [e] at eR;exact .inr ⟨xU e,eR⟩
     |some j=>rw [e] at eR;exact .inl (zAC j (xT e) (hF.tg blk hmem j (GT e)) eR)
   ·exact bq e2 rfl (zBK H tb bx2 td wd i s2 F blk (ins++oth) (zBG hR2 hT hblk hsg hG2 w1 w8 Jy fun bx' H4 hR4=>zn bx' hR4 rfl))
  ·rw [decide_eq_true rfl,if_neg Jx];exact fin eR
 ·refine fin ?_;rcases hpl with ⟨i,rfl,hi,eR⟩ | ⟨rfl,eR⟩
  ·rw [show m.toNat-k=0 by omega] at eR;exact eR
  ·exact eR
def zr:Sp:=fun vs H Q _=>∃(op:Str)(x y w:Int),vs=[.str op,.int x,.int y,.int w]/\op∈ops/\0<=w/\w<=8/\∀H',Same H H'->Q (.int (lop op x y w)) H'
theorem HX{op:Str}{x y w:Int}{H:Hp}{Q:VK}{E:XK}:zr [.str op,.int x,.int y,.int w] H Q E=(op∈ops/\0<=w/\w<=8/\∀H',Same H H'->Q (.int (lop op x y w)) H'):=propext ⟨by rintro ⟨_,_,_,_,e,q⟩;cases e;exact q,by intro q;exact zAP op x y w rfl q⟩
theorem Same.uu{H:Hp}{p:Addr}{o u:HO}(h:H p=none):Same H (upd (upd H p o) p u):=fun b v e=>by rw [ao (am e h),ao (am e h)];exact e
theorem EC(T:Txt K mg t):FnOk P w K mg base CX0 1 t.f_151 t.e_151 ["_law_op_here","_law_x","_law_y","_law_width"] zr:=by
 refine T.d_151.F.ok sc_151 ∅ ?_;rintro cdv A outer s H vs Q E hr ⟨op,x,y,w,rfl,ho,h0,h8,q⟩;have hu:=dE hr;refine ⟨_,
   (XSs.h
   (ai
    (au (i:=4) sc_151.nd rfl ll (av eK aj (yqv 3 vl)))
   (ai
    (aG (ap aZ (yqv 0 vl) aF (aA _))
     (ak
      (aw (av aX (av bo (yqv 1 vl) (yqv 2 vl)) (yqv 4 vl))))
     aD)
   (ai
    (aG (ap aZ (yqv 0 vl) aF (aA _))
     (ak
      (aw (av aX (av gL (yqv 1 vl) (yqv 2 vl)) (yqv 4 vl))))
     aD)
   (ai
    (aG (ap aZ (yqv 0 vl) aF (aA _))
     (ak
      (aw (ck j3 gl T.z_int boot_int (aa (bP g9 (yqv 1 vl) (yqv 2 vl) (aA _)) ae))))
     aD)
   (ai
    (aG (ap aZ (yqv 0 vl) aF (aA _))
     (ak
      (aw (ck j3 gl T.z_int boot_int (aa (bP aZ (yqv 1 vl) (yqv 2 vl) (aA _)) ae))))
     aD)
   (ai
    (au (i:=5) sc_151.nd rfl ll aj)
   (ai
    (bG PassesOwn.never rfl (cQ gl T.z_range (aa (yqv 3 vl) ae)) (aC (i:=6) sc_151.nd rfl ll)
     (ai
      (au (i:=7) sc_151.nd rfl ll (av aX (av bh (yqv 1 vl) (av eK aj (yqv 6 vl))) aj))
     (ai
      (au (i:=8) sc_151.nd rfl ll (av aX (av bh (yqv 2 vl) (av eK aj (yqv 6 vl))) aj))
     (ai
      (au (i:=9) sc_151.nd rfl ll (cE hu (zU (ko (aF).h (av d8 (yqv 7 vl) (yqv 8 vl)).h (ko (aF).h (aK (uX rfl) gl T.z_max boot_max (aa (yqv 7 vl) (aa (yqv 8 vl) ae))).h (ko (aF).h (av aX (av bo (yqv 7 vl) (yqv 8 vl)) aj).h BE))) rfl rfl (by intro z;cases z) Jx) (yqv 0 vl) (fun _ _=>rfl)))
     (ak
      (au (i:=5) sc_151.nd rfl ll (av bo (yqv 5 vl) (av d8 (yqv 9 vl) (av eK aj (yqv 6 vl))))))))))
   (ak
    (aw (yqv 5 vl))))))))))),?_⟩
 rw [show aP _ [V.str op,V.int x,V.int y,V.int w]=[some (.str op),some (.int x),some (.int y),some (.int w),none,none,none,none,none,none] from rfl];rwa [];unfold lop at q;have hp:(0:Int)<1 * 2 ^ w.toNat:=by rw [nR];exact qH Jx
 refine ⟨zAB h0 Jy Jx,aB (fun e=>?_) (fun e=>?_)⟩
 ·rw [if_pos e] at q;exact ⟨hp,q H (Same.refl H)⟩
 rw [if_neg e] at q;refine aB (fun e'=>?_) (fun e'=>?_)
 ·rw [if_pos e'] at q;exact ⟨hp,q H (Same.refl H)⟩
 rw [if_neg e'] at q;refine aB (fun e=>?_) (fun e=>?_)
 ·rw [if_pos e] at q;exact q H (Same.refl H)
 rw [if_neg e] at q;refine aB (fun e''=>?_) (fun e''=>?_)
 ·rw [if_pos e''] at q;exact q H (Same.refl H)
 rw [if_neg e''] at q;have ho3:op="and"\/op="or"\/op="xor":=by
  have z:op="plus"\/op="less"\/op="and"\/op="or"\/op="xor"\/op="below"\/op="same":=by simpa [FB.opsL] using ho
  rcases z with z | z | z | z | z | z | z
  ·exact absurd z ‹_›
  ·exact absurd z ‹_›
  ·exact .inl z
  ·exact .inr (.inl z)
  ·exact .inr (.inr z)
  ·exact absurd z ‹_›
  ·exact absurd z ‹_›
 refine zAB Jy Jy (gu (fun i σ H'=>Same H H'/\∃b c d e f,σ=[some (.str op),some (.int x),some (.int y),some (.int w),b,some (.int (K01M.bsI (fof op) x y i)),c,d,e,f]) ⟨Same.refl H,zAS _ _ _ _ _ rfl⟩ ?_ ?_)
 ·rintro i σ H2 hi ⟨s2,b,c,d,e,f,rfl⟩;rwa [];have ei:(i:Int).toNat=i:=by omega
  have cp:uS 1 (i:Int):=zAB Jy Jy Jx
  have cd:∀z,CDivB z (1 * 2 ^ (i:Int).toNat):=fun z=>by rw [ei];exact CDivB.pow Jy
  have l1:∀z:Int,0<=z % 2:=fun z=>eO _ Jx;have l2:∀z:Int,z % 2<2:=fun z=>gc _ Jx;have a1:=l1 (x / (1 * 2 ^ (i:Int).toNat));have a2:=l2 (x / (1 * 2 ^ (i:Int).toNat));have a3:=l1 (y / (1 * 2 ^ (i:Int).toNat));have a4:=l2 (y / (1 * 2 ^ (i:Int).toNat));generalize hX:x / (1 * 2 ^ (i:Int).toNat) % 2=X1 at *;generalize hY:y / (1 * 2 ^ (i:Int).toNat) % 2=Y1 at *;refine zAI cp (cd _) cp (cd _) fun p hp=>?_;refine zAB (.inl ⟨Jy,Jy⟩) ac (zAC ([(Sum.inr "and",.int (X1 * Y1)),(Sum.inr "or",.int (if Y1>X1 then Y1 else X1)),(Sum.inr "xor",.int ((X1+Y1) % 2))]) rfl (by show 3<=15;decide) ?_);refine zAA p (.int (fof op X1 Y1)) rfl ?_ ?_
  ·have g:=DGet.k (k:=Sum.inr op) (ac (H:=upd H2 p (.dK [])) (a:=p) (o:=.dK (ib [] [((Sum.inr "and":Key),V.int (X1 * Y1)),(Sum.inr "or",.int (if Y1>X1 then Y1 else X1)),(Sum.inr "xor",.int ((X1+Y1) % 2))])));have n10:¬("or":Str)="and":=by decide +kernel
   have n15:¬("xor":Str)="and":=by decide +kernel
   have n16:¬("xor":Str)="or":=by decide +kernel
   rcases ho3 with rfl | rfl | rfl
   ·unfold fof;rw [if_pos rfl];exact g
   ·unfold fof;rw [if_neg n10,if_pos rfl];exact g
   ·unfold fof;rw [if_neg n15,if_neg n16];exact g
  ·rwa [];have hf0:0<=fof op X1 Y1/\fof op X1 Y1<=1:=by
    have z1:X1=0\/X1=1:=by omega
    have z2:Y1=0\/Y1=1:=by omega
    unfold fof;rcases z1 with rfl | rfl<;>rcases z2 with rfl | rfl<;>split<;>(try split)<;>(try split)<;>omega
   have eB:K01M.bsI (fof op) x y (i+1)=K01M.bsI (fof op) x y i+fof op X1 Y1 * (1 * 2 ^ (i:Int).toNat):=by rw [K01M.bsI,<- hX,<- hY,ei,nR]
   rw [eB];exact zAG cp (.inl ⟨Jy,Jy⟩) (fun b o eb=>Same.uu hp b o (s2 b o eb)) (zAS _ _ _ _ _ rfl)
 ·rintro σ H2 ⟨s2,b,c,d,e,f,rfl⟩;rwa [];exact q H2 s2
def x9(K:W.Frag)(q:Addr)(bx:Addr)(td:Addr)(w:Int)(H:Hp)(Q:VK):Prop:=∃(d:Deed)(b:Bx)(ns:List Str)(tl:List Int),SqT K H q d.vs/\d.fine/\Deed.good ns w d/\H bx=some (.dK b)/\BxG ns w b/\H td=some (.lst (tl.map V.int))/\tl.length<=1000000/\1<=w/\w<=8/\
 ∀H',SameB bx td H H'->H' bx=some (.dK (doB w d b))->H' td=some (.lst ((doT w d b tl).map V.int))->Q .non H'
def pZ(K:W.Frag):Sp:=fun vs H Q _=>∃(q:Addr)(bx:Addr)(td:Addr)(w:Int),vs=[.ref q,.ref bx,.ref td,.int w]/\x9 K q bx td w H Q
theorem y9(T:Txt K mg t):FnOk P w K mg base CX0 1 t.f_150 t.e_150 ["_law_operand_here","_law_boxes"] (nC K):=by
 refine T.d_150.F.ok Gn ∅ ?_;rintro cdv A outer s H vs Q E hr ⟨o,bx,b,ns,w,rfl,hB,hG,ho,q⟩;have hu:=dE hr;refine ⟨_,
   (XSs.h
   (ai
    (aG (cj (aK eS gl T.z_isinstance boot_isinstance (aa (yqv 0 vl) (aa (f7 (v:=.ty "str") gl T.z_str boot_str rfl) ae))))
     (ak
      (aw (cE hu (yqv 1 vl) (yqv 0 vl) (fun _ _=>rfl))))
     aD)
   (ak
    (aw (yqv 0 vl))))),?_⟩
 rw [show aP _ [o.v,V.ref bx]=[some o.v,some (.ref bx)] from rfl];rwa [];refine mW (zn _ rfl ?_)
 cases o with
 |box n=>exact zAA bx _ rfl (.inl (zAA b (.inr n) (.inl hB) rfl (hG.val ho).symm)) q
 |word i=>exact q
theorem xZ(T:Txt K mg t):FnOk P w K mg base CX0 2 t.f_152 t.e_152 ["_law_row","_law_boxes","_law_told","_law_width"] (pZ K):=by
 have G_150:=@y9 P w K mg base t T;have G_151:=@EC P w K mg base t T;refine T.d_152.F.ok Gp ∅ ?_;rintro cdv A outer s H vs Q E hr ⟨qd,bx,td,w,rfl,d,b,ns,tl,hq,hf,hd,hB,hG,hT,hl,w1,w8,q⟩;have hu:=dE hr;refine ⟨_,
   (XSs.h
   (ak
    (aG (ap aZ (aq az (yqv 0 vl) aj) aF (aA _))
     (ak
      (aR (cg PySem.F.plainAttrs_list PySem.F.slot_list_append PySem.F.type_list_append bg (yqv 2 vl) (aa (ax T.d_150 G_150 hr.m (aa (aq az (yqv 0 vl) aj) (aa (yqv 1 vl) ae)) gl) ae))))
     (ak
      (aG (ap aZ (aq az (yqv 0 vl) aj) aF (aA _))
       (ak
        (dz hu (yqv 1 vl) (aq az (yqv 0 vl) aj) (ax T.d_150 G_150 hr.m (aa (aq az (yqv 0 vl) aj) (aa (yqv 1 vl) ae)) gl) rfl))
       (ak
        (dz hu (yqv 1 vl) (aq az (yqv 0 vl) aj) (ax T.d_151 G_151 hr.m (aa (aq az (yqv 0 vl) aj) (aa (ax T.d_150 G_150 hr.m (aa (aq az (yqv 0 vl) aj) (aa (yqv 1 vl) ae)) gl) (aa (ax T.d_150 G_150 hr.m (aa (aq az (yqv 0 vl) aj) (aa (yqv 1 vl) ae)) gl) (aa (yqv 3 vl) ae)))) gl) rfl))))))),?_⟩
 rw [show aP _ [V.ref qd,V.ref bx,V.ref td,V.int w]=[some (.ref qd),some (.ref bx),some (.ref td),some (.int w)] from rfl];rwa [];have few:=hG.few;have nbt:bx≠td:=bw hB hT (by intro z;cases z)
 cases d with
 |tell o=>
  refine zAA _ _ hq rfl ?_;rwa [];refine aB (fun _=>⟨.inl ⟨rfl,_,SqL.of hT⟩,zAA _ _ hq rfl ?_⟩) (fun e=>absurd trivial e);rwa [kA];refine zAO b ns w hB hG hd (zAC _ hT (by rw [zq1,sizeLine_eq];omega) (q _ SameB.upd2 (by rw [ao nbt];exact hB) ?_));show upd H td _ td=some (.lst (List.map V.int (tl++[eA b o])));rw [ac,cy];rfl
 |copy n o=>
  refine zAA _ _ hq rfl ?_;rwa [];refine aB (fun e=>absurd e Jv) (fun _=>zAA _ _ hq rfl ?_);rwa [];refine aB (fun _=>zAA _ _ hq rfl ?_) (fun e=>absurd trivial e);rwa [kA];refine zAO b ns w hB hG hd.2 ?_;exact zAA _ _ hq rfl (zn _ (DPut.k (k:=.inr n) hB (by rw [sizeLine_eq];omega)) (q _ SameB.upd1 ac (by rw [ao nbt.symm];exact hT)))
 |op f n o o2=>obtain ⟨g1,g2,g3,g4⟩:f∈FB.opsL/\n∈ns/\Opd.good ns w o/\Opd.good ns w o2:=hd;have a1:=gz hG g3;have a2:=gz hG g4;refine zAA _ _ hq rfl ?_;rwa [];refine aB (fun e=>absurd e (nj hf Jv)) (fun _=>zAA _ _ hq rfl ?_);rwa [];refine aB (fun e=>absurd e (nj hf Jv)) (fun _=>zAA _ _ hq rfl (zAA _ _ hq rfl ?_));rwa [kA];refine zAO b ns w hB hG g3 (zAA _ _ hq rfl ?_);rwa [kA,HX];refine zAH b ns w (zAR hB hG g4 g1 Jy w8 fun H1 s1=>zAA _ _ (s1.seqT hq) rfl (zn _ (DPut.k (k:=.inr n) (s1 _ _ hB) (by rw [sizeLine_eq];omega)) ?_));refine q _ ((SameB.of s1).trans SameB.upd1) ?_ (by rw [ao nbt.symm];exact s1 _ _ hT);rw [ac];show _=some (HO.dK (bv b (.inr n) (.int (jB f (eA b o) (eA b o2) w))));rw [GN hf a1.1 a1.2 a2.1 a2.2]
theorem fD{qd bx td:Addr}{w:Int}{H:Hp}{Q:VK}{E:XK}:pZ K [.ref qd,.ref bx,.ref td,.int w] H Q E=∃(d:Deed)(b:Bx)(ns:List Str)(tl:List Int),SqT K H qd d.vs/\d.fine/\Deed.good ns w d/\H bx=some (.dK b)/\BxG ns w b/\H td=some (.lst (tl.map V.int))/\tl.length<=1000000/\1<=w/\w<=8/\
  ∀H',SameB bx td H H'->H' bx=some (.dK (doB w d b))->H' td=some (.lst ((doT w d b tl).map V.int))->Q .non H':=propext ⟨by rintro ⟨_,_,_,_,e,q⟩;cases e;exact q,fun q=>zAP _ _ _ _ rfl q⟩
variable {H H0:Hp}
def WkV(K:W.Frag)(H0 H:Hp)(y:V)(s:Stm):Prop:=∃q x ag f,y=.ref q/\SqT K H q [x,.bl ag]/\StmV K H0 x s f
theorem WkV.ts{K:W.Frag}{H':Hp}{y:V}{s:Stm}(t:TSame H H')(h:WkV K H0 H y s):WkV K H0 H' y s:=let ⟨q,x,ag,f,e,z,r⟩:=h;(zAX q x ag f e (t.seqT z) r)
structure LRun(K:W.Frag)(H0 H:Hp)(bx td wk:Addr)(st:Stt):Prop where
 same:SameX bx H0 H
 bxs:H bx=some (.dK st.bx)
 tds:H td=some (.lst (st.told.map V.int))
 wks:∃ys,H wk=some (.lst ys)/\Paired (WkV K H0 H) ys.reverse st.left
 fr:H0 td=none/\H0 wk=none
 ne:td≠wk
def AS(K:W.Frag)(r:Addr)(bx:Addr)(w:Int)(m:Int)(H:Hp)(Q:VK):Prop:=∃(xs:List V)(ss:List Stm)(f:List Addr)(b:Bx)(ns:List Str),H r=some (.lst xs)/\StmsV K H xs ss f/\H bx=some (.dK b)/\SG ns w 0 ⟨ss,b,[]⟩/\0<=m/\m<=2100/\
 ∀p td k H',SameX bx H H'->H td=none->H' p=some (.tup [.ref td,.bl (decide ((bL w m.toNat ⟨ss,b,[]⟩).left.length=0)),.int k])->H' td=some (.lst ((bL w m.toNat ⟨ss,b,[]⟩).told.map V.int))->H' bx=some (.dK (bL w m.toNat ⟨ss,b,[]⟩).bx)->Q (.ref p) H'
def ul(K:W.Frag):Sp:=fun vs H Q _=>∃(r:Addr)(bx:Addr)(w:Int)(m:Int),vs=[.ref r,.ref bx,.int w,.int m]/\AS K r bx w m H Q
theorem js:∀{zs:List V} {us:List Stm} {g:List Addr},StmsV K H0 zs us g->Paired (fun x s=>∃f,StmV K H0 x s f) zs us:=by
 intro zs us g h
 induction zs generalizing us g with
 |nil=>cases h;exact .nil
 |cons z zs ih=>cases h with | cons h1 h2=>exact .cons ⟨_,h1⟩ (ih h2)
theorem zP{H0 H:Hp}{R:V->V->Prop}(hR:∀x y,R x y->∃q ag,y=.ref q/\SqT K H q [x,.bl ag]):∀{xs ys:List V} {ss:List Stm},Paired R xs ys->Paired (fun x s=>∃f,StmV K H0 x s f) xs ss->Paired (WkV K H0 H) ys ss
 |_,_,_,.nil,.nil=>.nil
 |_,_,_,.cons h1 t1,.cons ⟨f,h2⟩ t2=>.cons (let ⟨q,ag,e,z⟩:=hR _ _ h1;(zAX q _ ag f e z h2)) (zP hR t1 t2)
theorem LRun.deed{H0 H H':Hp}{bx td wk:Addr}{left:List Stm}{b b':Bx}{tl tl':List Int}(h:LRun K H0 H bx td wk ⟨left,b,tl⟩)(s:SameB bx td H H')(h1:H' bx=some (.dK b'))(h2:H' td=some (.lst (tl'.map V.int))):LRun K H0 H' bx td wk ⟨left,b',tl'⟩:=by
 obtain ⟨ys,hys,hyp⟩:=h.wks;have hb:=h.bxs;have ht:=h.tds;have tt:TSame H H':=⟨fun c xs e=>s c _ e (bw e hb (by intro z;cases z)) (bw e ht (by intro z;cases z)),fun c o u e=>s c _ e (bw e hb (by intro z;cases z)) (bw e ht (by intro z;cases z))⟩
 exact ⟨fun c o e n=>s c o (h.same c o e n) n (fun z=>by rw [z,h.fr.1] at e;cases e),h1,h2,zn ys (s wk _ hys (bw hys hb (by intro z;cases z)) h.ne.symm) (hyp.mono fun _ _ z=>z.ts tt),h.fr,h.ne⟩
theorem LRun.more{H':Hp}{bx td wk wk2:Addr}{left l2:List Stm}{b:Bx}{tl:List Int}{zs:List V}(h:LRun K H0 H bx td wk ⟨left,b,tl⟩)(s:Same H H')(hn:H wk2=none)(h1:H' wk2=some (.lst zs))(h2:Paired (WkV K H0 H') zs.reverse l2):LRun K H0 H' bx td wk2 ⟨l2,b,tl⟩:=
 ⟨h.same.trans (SameX.of s),s _ _ h.bxs,s _ _ h.tds,zn zs h1 h2,⟨h.fr.1,h.same.free h.bxs hn⟩,am h.tds hn⟩
theorem Ct{ci:List Nat}{σ:L2.St}{acc l:Addr}{Q:Hp->Prop}{H1:Hp}{xs:List V}(hl:H1 l=some (.lst xs))(hz:xs.length<=sizeLine)(hacc:H1 acc=none)
 (q:∀ys H,Same H1 H->H acc=some (.lst ys)->Paired (fun x y=>∃q ag,y=.ref q/\SqT K H q [x,.bl ag]) xs ys->Q H):ce (Itl K l) (bD 1) gO (Cb (kK (dh 1) (kK (tC (V.bl false)) lj))) 1 ci σ acc Q (upd H1 acc (.lst [])):=by
 refine AZ (fun H x y=>∃q ag,y=.ref q/\SqT K H q [x,.bl ag]) (fun H H' x y tt ⟨q,ag,e,z⟩=>zAD q ag e (tt.seqT z)) hz (SqL.of hl) hacc (fun x hm H Q' sm h=>?_) q;rwa [];exact fun u hu=>h _ _ (Same.upd hu) (zAD u false rfl (SqT.of ac))
theorem nK{H3:Hp}{bx td wk part:Addr}{ss' ss2:List Stm}{bb:Bx}{told:List Int}{us:List V}{f2:List Addr}{ci:List Nat}{σ:L2.St}{Z:Addr->Hp->Prop}{b0:Bx}(h:LRun K H0 H3 bx td wk ⟨ss',bb,told⟩)(hB:H0 bx=some (.dK b0))(hp:H0 part=some (.lst us))(hS:StmsV K H0 us ss2 f2)(hl:ss'.length+ss2.length<=10000000)
 (hZ:∀wk2 H5,LRun K H0 H5 bx td wk2 ⟨ss2++ss',bb,told⟩->Z wk2 H5) :
 ∃a xs,V.ref part=V.ref a/\SqL K H3 a xs/\∀l,H3 l=none->(∃xs_1,SqL K (upd H3 l (.lst xs.reverse)) l xs_1)/\∀acc,upd H3 l (.lst xs.reverse) acc=none->∀bk:Bk,
   ce (Itl K l) (bD 1) gO (Cb (kK (dh 1) (kK (tC (V.bl false)) lj))) 1 ci σ acc (fun H'=>∃xs zs,H' wk=some (.lst xs)/\H' acc=some (.lst zs)/\xs.length+zs.length<=sizeLine/\∀l,H' l=none->Z l (upd H' l (.lst (xs++zs)))) (upd (upd H3 l (.lst xs.reverse)) acc (.lst [])):=by
 have ly:=hS.length;obtain ⟨ys,hys,hyp⟩:=h.wks;have lys:ys.length=ss'.length:=by have:=hyp.length;rw [jG] at this;exact this
 refine zAA part us rfl (SqL.of (h.same _ _ hp (bw hp hB (by intro z;cases z)))) fun l hl'=>⟨⟨_,SqL.of ac⟩,fun acc hacc bk=>Ct (xs:=us.reverse) ac (by rw [jG,sizeLine_eq];omega) hacc fun zs H4 s4 hzs hzp=>?_⟩;have s1:=Same.upd (o:=.lst us.reverse) hl';have s14:=s1.trans s4;have lz:=hzp.length;rw [jG] at lz;refine zAE ys zs (s14 _ _ hys) hzs (by rw [sizeLine_eq];omega) fun l2 hl2=>hZ l2 _ (h.more (s14.trans (Same.upd hl2)) (s14.free hl2) ac ?_);have tt:=(Same.upd (o:=.lst (ys++zs)) hl2).ts;rw [wN];have hz2:=Paired.rev hzp;rw [AF] at hz2;refine Paired.app ?_ (hyp.mono fun _ _ z=>z.ts (s14.ts.trans tt));exact (zP (H:=H4) (fun x y h=>h) hz2 (js hS)).mono fun _ _ z=>z.ts tt
theorem Bm(T:Txt K mg t):FnOk P w K mg base CX0 3 t.f_153 t.e_153 ["_law_rows","_law_boxes","_law_width","_law_most"] (ul K):=by
 have G_152:=@xZ P w K mg base t T;refine T.d_153.F.ok sc_153 ∅ ?_;rintro cdv A outer s H vs Q E hr ⟨r,bx,w,m,rfl,xs,ss,f,b,ns,hr0,hS,hB,hG,m0,m21,q⟩;have hu:=dE hr;refine ⟨_,
   (XSs.h
   (ai
    (au (i:=4) sc_153.nd rfl ll (aN ae))
   (ai
    (eJ (i:=6) sc_153.nd rfl ll rfl Jw (tns:=["_law_row"]) (cns:=[]) (ci:=[]) rfl (CompSc.of Jw) (bc (jg (yqv 0 vl) (g7 eL aj))) (fun _=>(aC (i:=1) (show List.Nodup [(".0":Str),("_law_row":Str)] by decide +kernel) rfl ll (Or.inr Jw))) (fun _=>cz) (fun _=>(aI (aa (yqv 1 vl) (aa cD ae)))))
   (ai
    (au (i:=7) sc_153.nd rfl ll aj)
   (ai
    (eZ PassesOwn.never (ap ij (aK aJ gl T.z_len PySem.boot_len (aa (yqv 6 vl) ae)) aj (aA _))
     (ai
      (aG (ap aZ (yqv 7 vl) (yqv 3 vl) (aA _))
       (ak
        (aw (aI (aa (yqv 4 vl) (aa cD (aa (yqv 7 vl) ae))))))
       aD)
     (ai
      (au (i:=7) sc_153.nd rfl ll (av bo (yqv 7 vl) aj))
     (ai
      (fG (jK PySem.F.plainAttrs_list PySem.F.slot_list_pop PySem.F.type_list_pop mZ (yqv 6 vl)) (dP rfl (aU (aC (i:=5) sc_153.nd rfl ll) (aU (aC (i:=8) sc_153.nd rfl ll) d6))))
     (ak
      (aG (ap aZ (aq az (yqv 5 vl) aj) aF (aA _))
       (ai
        (au (i:=9) sc_153.nd rfl ll (aq az (yqv 5 vl) aj))
       (ai
        (aG (ap aZ (cE hu (yqv 1 vl) (aq az (yqv 5 vl) aj) (fun _ _=>rfl)) aj (aA _))
         (ak
          (au (i:=9) sc_153.nd rfl ll (aq az (yqv 5 vl) aj)))
         aD)
       (ak
        (au (i:=6) sc_153.nd rfl ll (av eN (yqv 6 vl) (bS (tns:=["_law_one"]) (cns:=[]) (ci:=[]) rfl (CompSc.of Jw) (bc (jg (yqv 9 vl) (g7 eL aj))) (fun _=>(aC (i:=1) (show List.Nodup [(".0":Str),("_law_one":Str)] by decide +kernel) rfl ll (Or.inr Jw))) (fun _=>cz) (fun _=>(aI (aa (yqv 1 vl) (aa cD ae))))))))))
       (ak
        (aG (ap aZ (aq az (yqv 5 vl) aj) aF (aA _))
         (ak
          (aG (ap me (cE hu (yqv 1 vl) (aq az (yqv 5 vl) aj) (fun _ _=>rfl)) aj (aA _))
           (ak
            (au (i:=6) sc_153.nd rfl ll (av eN (av eN (yqv 6 vl) (aN (aa (aI (aa (yqv 5 vl) (aa cD ae))) ae))) (bS (tns:=["_law_one"]) (cns:=[]) (ci:=[]) rfl (CompSc.of Jw) (bc (jg (aq az (yqv 5 vl) aj) (g7 eL aj))) (fun _=>(aC (i:=1) (show List.Nodup [(".0":Str),("_law_one":Str)] by decide +kernel) rfl ll (Or.inr Jw))) (fun _=>cz) (fun _=>(aI (aa (yqv 1 vl) (aa cD ae))))))))
           aD))
         (ak
          (aR (ax T.d_152 G_152 hr.m (aa (yqv 5 vl) (aa (yqv 1 vl) (aa (yqv 4 vl) (aa (yqv 2 vl) ae)))) gl)))))))))))
   (ak
    (aw (aI (aa (yqv 4 vl) (aa cD (aa (yqv 7 vl) ae))))))))))),?_⟩
 rw [show aP _ [V.ref r,V.ref bx,V.int w,V.int m]=[some (.ref r),some (.ref bx),some (.int w),some (.int m),none,none,none,none,none,none] from rfl];rwa [fD];intro td htd;have s1:=Same.upd (o:=.lst []) htd;refine zAA r xs rfl (SqL.of (s1 _ _ hr0)) fun l hl=>⟨⟨_,SqL.of ac⟩,fun wk hwk bk=>?_⟩;have lx:=hS.length;have ll:=hG.len;dsimp only at ll;refine Ct (xs:=xs.reverse) ac (by rw [jG,sizeLine_eq];omega) hwk fun ys H1 s2 hys hyp=>?_;have s12:=s1.updN (o:=.lst xs.reverse) hl;have sH:=s12.trans s2;have L0:LRun K H H1 bx td wk ⟨ss,b,[]⟩:=by refine ⟨SameX.of sH,sH _ _ hB,s2 _ _ (Same.upd hl _ _ ac),zn ys hys ?_,⟨htd,s12.free hwk⟩,am (Same.upd hl _ _ ac) hwk⟩;have:=Paired.rev hyp;rw [AF] at this;exact zP (fun x y h=>h) this (js hS)
 generalize (⟨ss,b,[]⟩:Stt)=st0 at hG L0 q;clear hyp hys hwk s2 sH s12;refine gH (fun σ H'=>∃(i:Nat)(wk:Addr)(o5 o8 o9:Option V),(i:Int)<=m/\LRun K H H' bx td wk (bL w i st0)/\σ=[some (.ref r),some (.ref bx),some (.int w),some (.int m),some (.ref td),o5,some (.ref wk),some (.int i),o8,o9])
  (fun (σ:L2.St) H'=>match (σ[7]?).join with | some (V.int i)=>(m-i).toNat | _=>0) (zBD 0 wk _ _ _ Jy L0 rfl) ?_
 rintro σ H2 ⟨i,wk,o5,o8,o9,hi,hL,rfl⟩;have sgi:=hG.run i;obtain ⟨ys,hys,hyp⟩:=hL.wks;have ly:ys.length=(bL w i st0).left.length:=by have:=hyp.length;rw [jG] at this;exact this
 rwa [fD];refine zn ys (.inl (SqL.of hys)) (aB (fun h1=>?_) (fun h1=>?_))
 ·obtain ⟨Nn,hNn⟩:∃Nn:L2.St->Hp->Prop,Nn=fun σ' H'=>∃(wk:Addr)(o5 o8 o9:Option V),(i:Int)+1<=m/\LRun K H H' bx td wk (bL w (i+1) st0)/\σ'=[some (.ref r),some (.ref bx),some (.int w),some (.int m),some (.ref td),o5,some (.ref wk),some (.int ((i:Int)+1)),o8,o9]:=⟨_,rfl⟩
  have hN:∀σ' H',(∃(wk:Addr)(o5 o8 o9:Option V),(i:Int)+1<=m/\LRun K H H' bx td wk (bL w (i+1) st0)/\σ'=[some (.ref r),some (.ref bx),some (.int w),some (.int m),some (.ref td),o5,some (.ref wk),some (.int ((i:Int)+1)),o8,o9])->Nn σ' H':=by rw [hNn];exact fun _ _ h=>h
  refine zn Nn ?_ ?_
  ·intro σ' H' hv;rw [hNn] at hv;obtain ⟨wk',o5,o8,o9,hi',hL',rfl⟩:=hv;refine zAC _ ?_ rfl (zBD (i+1) wk' _ _ _ Jy hL' rfl);show (m-((i:Int)+1)).toNat<(m-(i:Int)).toNat;omega
  ·clear hNn;refine aB (fun h2=>?_) (fun h2=>?_)
   ·intro u hu;have s5:=Same.upd (o:=.tup [V.ref td,V.bl false,V.int ↑i]) hu;have em:m.toNat=i:=by omega
    rw [em,decide_eq_false Jy] at q;exact q u td i _ (hL.same.trans (SameX.of s5)) hL.fr.1 ac (s5 _ _ hL.tds) (s5 _ _ hL.bxs)
   ·have him:(i:Int)+1<=m:=by omega
    obtain ⟨ys',y,rfl⟩:∃ys' y,ys=ys'++[y]:=⟨ys.dropLast,ys.getLast (by intro z;rw [z] at h1;simp at h1),(sF _).symm⟩
    refine ⟨.inl ⟨rfl,_,SqL.of hys⟩,zAA _ y hys Jz ?_⟩;have edl:(ys'++[y]).dropLast=ys':=by simp
    rw [edl];obtain ⟨left,bb,told,hst⟩:∃left bb told,bL w i st0=⟨left,bb,told⟩:=zAH _ _ _ rfl
    have hnx:bL w (i+1) st0=fM w ⟨left,bb,told⟩:=by rw [bL,hst]
    rw [hst] at hL hyp sgi ly;dsimp only at hyp ly;rw [wN] at hyp
    cases left with
    |nil=>cases hyp
    |cons s1' ss'=>
    obtain ⟨⟨qy,x,ag,fx,rfl,hqy,hx⟩,hyp'⟩:WkV K H H2 y s1'/\Paired (WkV K H H2) ys'.reverse ss':=by
     cases hyp with
     |cons h t=>exact ⟨h,t⟩
    have tt:TSame H2 (upd H2 wk (.lst ys')):=TSame.updL hys;have nbw:bx≠wk:=bw hL.bxs hys (by intro z;cases z);have L2':LRun K H (upd H2 wk (.lst ys')) bx td wk ⟨ss',bb,told⟩:=by refine ⟨fun c o e n=>?_,by rw [ao nbw];exact hL.bxs,by rw [ao hL.ne];exact hL.tds,zn ys' ac (hyp'.mono fun _ _ z=>z.ts tt),hL.fr,hL.ne⟩;rw [ao (am e hL.fr.2)];exact hL.same c o e n
    have hqy2:=tt.seqT hqy;have hm':s1'.many<=1000:=sgi.many s1' Jz;have hgd:s1'.good ns w/\bK ns w ss':=sgi.gd;have hbx:BxG ns w bb:=sgi.bx;have ltold:=sgi.told;have llen:=sgi.len;dsimp only at ltold llen;rw [cJ] at llen;generalize upd H2 wk (.lst ys')=H3 at tt L2' hqy2 ⊢;have hT3:TSame H H3:=L2'.same.tsD hB;have hx3:∀a zs,H a=some (.lst zs)->H3 a=some (.lst zs):=fun a zs e=>L2'.same _ _ e (bw e hB (by intro z;cases z));rwa [fD];refine zAC _ hqy2 rfl ?_;rwa [fD]
    cases hx with
    | @deed qd d hf hq=>
     rwa [fD];have hq3:=hT3.seqT hq;refine jk hf hq3 Jv Jv Jv (zn _ rfl ?_);rw [if_neg zq3];refine jk hf hq3 Jv Jv Jv (zn _ rfl ?_);rw [if_neg zq3];refine zBM d bb ns told (zBN hq3 hf hgd.1 L2'.bxs hbx L2'.tds Jy sgi.wd.1 sgi.wd.2 fun H4 s4 b4 t4=>hN _ _ (zAX wk _ _ _ him ?_ rfl));rw [hnx];exact L2'.deed s4 b4 t4
    | @ifs qd ar br n zs us a c fa fb hq ha hb hya hyb=>
     rwa [fD];have hq3:=hT3.seqT hq;obtain ⟨hn,ga,gb⟩:n∈ns/\bK ns w a/\bK ns w c:=hgd.1;have la:=cC a;have lc:=cC c;simp only [Stm.many] at hm';refine zAE _ _ hq3 rfl rfl (zn true rfl ?_);rw [if_pos rfl];refine zAA _ _ hq3 rfl (zAA _ _ hq3 rfl (zAE bx _ rfl (.inl (zAA bb (.inr n) (.inl L2'.bxs) rfl (hbx.val hn).symm)) rfl (zn _ rfl ?_)));have hnx2:bL w (i+1) st0=⟨(if aH bb n≠0 then a else c)++ss',bb,told⟩:=hnx
     by_cases h0:aH bb n=0
     ·rw [decide_eq_true (congrArg V.int h0),if_pos rfl];rw [if_neg (fun z=>z h0)] at hnx2;refine zAA _ _ hq3 rfl ?_;refine nK (Z:=fun u H5=>Nn [some (V.ref r),some (V.ref bx),some (V.int w),some (V.int m),some (V.ref td),some (V.ref qd),some (V.ref u),some (V.int (↑i+1)),some (V.bl ag),some (V.ref br)] H5) L2' hB hb hyb Jy fun wk2 H5 hL5=>hN _ _ (zAX wk2 _ _ _ him ?_ rfl);rw [hnx2];exact hL5
     ·rw [decide_eq_false (fun z=>h0 (V.int.inj z)),if_neg zq3];rw [if_pos h0] at hnx2;refine nK (Z:=fun u H5=>Nn [some (V.ref r),some (V.ref bx),some (V.int w),some (V.int m),some (V.ref td),some (V.ref qd),some (V.ref u),some (V.int (↑i+1)),some (V.bl ag),some (V.ref ar)] H5) L2' hB ha hya Jy fun wk2 H5 hL5=>hN _ _ (zAX wk2 _ _ _ him ?_ rfl);rw [hnx2];exact hL5
    | @whl qd ar n zs a fa hq ha hya=>
     rwa [fD];have hq3:=hT3.seqT hq;obtain ⟨hn,ga⟩:n∈ns/\bK ns w a:=hgd.1;have la:=cC a;simp only [Stm.many] at hm';refine zAE _ _ hq3 rfl rfl (zn false Jv ?_);rw [if_neg zq3];refine zAE _ _ hq3 rfl rfl (zn true rfl ?_);rw [if_pos rfl];refine zAA _ _ hq3 rfl (zAE bx _ rfl (.inl (zAA bb (.inr n) (.inl L2'.bxs) rfl (hbx.val hn).symm)) rfl (zn _ rfl ?_));have hnx2:bL w (i+1) st0=⟨if aH bb n≠0 then a++.whl n a::ss' else ss',bb,told⟩:=hnx
     by_cases h0:aH bb n=0
     ·rw [decide_eq_true (congrArg V.int h0)];rw [if_neg (fun z=>z h0)] at hnx2;refine hN _ _ (zAX wk _ _ _ him ?_ rfl);rw [hnx2];exact L2'
     ·rw [decide_eq_false (fun z=>h0 (V.int.inj z))];rw [if_pos h0] at hnx2;show ∀p,H3 p=none->_;intro p hp p1 hp1;obtain ⟨zs3,hzs3,hzp3⟩:=L2'.wks;have lz3:zs3.length=ss'.length:=by have:=hzp3.length;rw [jG] at this;exact this
      have t1:=Same.upd (o:=.tup [V.ref qd,V.bl true]) hp;have t2:=t1.updN (o:=.lst [V.ref p]) hp1;refine zAE zs3 ([.ref p]) (t2 _ _ hzs3) ac (by rw [c9,sizeLine_eq];omega) fun p2 hp2=>?_;have t3:=t2.updN (o:=.lst (zs3++[V.ref p])) hp2;have hpt:upd (upd (upd H3 p (.tup [V.ref qd,V.bl true])) p1 (.lst [V.ref p])) p2 (.lst (zs3++[V.ref p])) p=some (.tup [V.ref qd,V.bl true]):=Same.upd hp2 _ _ (Same.upd hp1 _ _ ac);have L3:LRun K H (upd (upd (upd H3 p (.tup [V.ref qd,V.bl true])) p1 (.lst [V.ref p])) p2 (.lst (zs3++[V.ref p]))) bx td p2 ⟨.whl n a::ss',bb,told⟩:=by refine L2'.more t3 (t2.free hp2) ac ?_;rw [wN];exact .cons (zAX p (.ref qd) true _ rfl (SqT.of hpt) (.whl hq ha hya)) (hzp3.mono fun _ _ z=>z.ts t3.ts)
      generalize upd (upd (upd H3 p (.tup [V.ref qd,V.bl true])) p1 (.lst [V.ref p])) p2 (.lst (zs3++[V.ref p]))=H4 at L3 t3 ⊢;refine zAA _ _ (t3.seqT hq3) rfl ?_;refine nK (Z:=fun u H5=>Nn [some (V.ref r),some (V.ref bx),some (V.int w),some (V.int m),some (V.ref td),some (V.ref qd),some (V.ref u),some (V.int (↑i+1)),some (V.bl ag),o9] H5) L3 hB ha hya (by rw [cJ];omega) fun wk2 H5 hL5=>hN _ _ (zAX wk2 _ _ _ him ?_ rfl);rw [hnx2];exact hL5
 ·have hz:(bL w i st0).left=[]:=zq42.mp Jy;intro u hu;have s5:=Same.upd (o:=.tup [V.ref td,V.bl true,V.int ↑i]) hu;have er:bL w m.toNat st0=bL w i st0:=kB hz Jy;rw [er,hz] at q;exact q u td i _ (hL.same.trans (SameX.of s5)) hL.fr.1 ac (s5 _ _ hL.tds) (s5 _ _ hL.bxs)
theorem Fy{r bx:Addr}{w m:Int}{Q:VK}{E:XK}:ul K [.ref r,.ref bx,.int w,.int m] H Q E=∃(xs:List V)(ss:List Stm)(f:List Addr)(b:Bx)(ns:List Str),H r=some (.lst xs)/\StmsV K H xs ss f/\H bx=some (.dK b)/\SG ns w 0 ⟨ss,b,[]⟩/\0<=m/\m<=2100/\
  ∀p td k H',SameX bx H H'->H td=none->H' p=some (.tup [.ref td,.bl (decide ((bL w m.toNat ⟨ss,b,[]⟩).left.length=0)),.int k])->H' td=some (.lst ((bL w m.toNat ⟨ss,b,[]⟩).told.map V.int))->H' bx=some (.dK (bL w m.toNat ⟨ss,b,[]⟩).bx)->Q (.ref p) H':=propext ⟨by rintro ⟨_,_,_,_,e,q⟩;cases e;exact q,fun q=>zAP _ _ _ _ rfl q⟩
theorem zG{ns:List Str}{wd:Int}{us:List Int}{B:List FZ.Blk}{bbs:List (List (List FB.Deed))}(hG:FZ.iW ns wd B.length B)(hB:0<B.length)(hL:Paired (eQ us) B bbs)(up:∀s,s<3->0<=uN us s):
  FZ.iW ns wd (jd B bbs).length (jd B bbs)/\0<(jd B bbs).length/\(jd B bbs).length<=9 * B.length/\∀r∈jd B bbs,bfB us r.ds=true:=by
 have hl:=hL.length;have hb:∀(i:Nat)b bs,B[i]?=some b->bbs[i]?=some bs->eQ us b bs/\b.ds.length<=8:=fun i b bs h1 h2=>by
  obtain ⟨bs',h3,h4⟩:=Paired.get hL h1;rw [h2] at h3
  cases h3
  exact ⟨h4,(hG b (zq9 h1)).len⟩
 have hm:∀bs∈bbs,∃b,eQ us b bs/\b.ds.length<=8:=fun bs hbs=>by obtain ⟨i,hi⟩:=zq61.mp hbs;obtain ⟨b,h1,_⟩:=Paired.getR hL hi;exact ⟨b,hb i b bs h1 hi⟩
 have hne:∀bs∈bbs,bs≠[]:=fun bs hbs=>let ⟨b,h1,h2⟩:=hm bs hbs;(cO up h2 h1).1;have len:(jd B bbs).length=fF bbs:=by have z:=g6 hl hne B.length (zq0 _);rw [fZ hl,hl,eE] at z;exact z
 have nine:=mz fun bs hbs=>let ⟨b,h1,h2⟩:=hm bs hbs;pd h2 h1;refine zAG ?_ ?_ Jy ?_
 ·rw [len,<- fZ hl];exact zF (us:=us) hl hne hG (fun i b bs h1 h2 l hl2=>by obtain ⟨z1,z2⟩:=hb i b bs h1 h2;exact ((cO up z2 z1).2 l hl2).2) _ (zq0 _)
 ·rw [len];have z:=(gk hne (i:=0) Jy).2;omega
 ·rw [<- fZ hl];exact uD (Z:=fun l=>bfB us l=true) hl hne (fun bs hbs l hl2=>by obtain ⟨b,h1,h2⟩:=hm bs hbs;exact ((cO up h2 h1).2 l hl2).1.bf) _ (zq0 _)
theorem qt{ns:List Str}{wd:Int}{F:List FZ.Blk}{L:Nat}(hF:E4 ns wd F)(w1:1<=wd)(hL:∀b∈F,b.ds.length<=L):∀{n i:Nat} {s:GA.BT},BxG ns wd s.1->BxG ns wd (GO.cW F wd n i s).1.1/\(GO.cW F wd n i s).1.1.map (·.1)=s.1.map (·.1)/\(GO.cW F wd n i s).1.2.length<=s.2.length+L * n
 |0,i,s,h=>zAB h rfl (nU _ _)
 |n+1,i,s,h=>by
  cases hb:F[i]? with
  |none=>
   rw [GO.cW,hb];exact zAB h rfl (nU _ _)
  |some b=>
   rw [GO.gD hb];have hm:=zq9 hb;obtain ⟨h1,h2⟩:=GO.BxG.beat h w1 h (hF.st b hm).gd;have h3:=GO.il (w:=wd) (b0:=s.1) (ds:=b.ds) (s:=s);have h4:=hL b hm;have h5:L * (n+1)=L * n+L:=Nat.mul_succ ..;unfold GO.tR
   cases e:GA.nxt s.1 b.ed with
   |none=>exact zAB h1 h2 (by dsimp only;omega)
   |some j=>obtain ⟨k1,k2,k3⟩:=qt hF w1 hL (n:=n) (i:=j) h1;exact zAB k1 (k2.trans h2) (by dsimp only;omega)
theorem wC{ns:List Str}{w:Int}{ds:List FB.Deed}(h:∀d∈ds,Deed.good ns w d)(hn:∀n∈ns,n≠"tell it"):∀n∈eC ds,n≠"tell it":=fun n hm=>by
 obtain ⟨d,hd,hnd⟩:=zq74.mp hm;have g:=h d hd
 cases d with
 |tell o=>cases hnd
 |copy m o=>rw [zq2.mp hnd];exact hn _ g.1
 |op f m o p=>rw [zq2.mp hnd];exact hn _ g.2.1
theorem GE{l:List FB.Deed}:(eC l).length<=l.length:=by
 induction l with
 |nil=>exact zq0 _
 |cons d l ih=>
  have e:eC (d::l)=d.writes++eC l:=rfl;rw [e,zq4,zQ,cJ]
  split<;>omega
def dy(d:FB.Deed):Str:=if d.tells then "tell it" else wr d
theorem zK{l:List FB.Deed}{x:Str}(h:x∈l.map dy):x="tell it"\/x∈eC l:=by
 obtain ⟨d,hd,rfl⟩:=zq23.mp h
 cases d with
 |tell o=>exact .inl rfl
 |copy n o=>exact .inr (zq74.mpr (zn _ hd (zq2.mpr rfl)))
 |op f n o p=>exact .inr (zq74.mpr (zn _ hd (zq2.mpr rfl)))
theorem ig:∀{l:List FB.Deed},(eC l).Nodup->l.length<=(eC l).length+1->(∀n∈eC l,n≠"tell it")->(l.map dy).Nodup/\(l.length<=(eC l).length->("tell it":Str)∉l.map dy)
 | [],_,_,_=>⟨Ay,fun _ h=>by cases h⟩
 |d::l,h1,h2,h3=>by
  have e:eC (d::l)=d.writes++eC l:=rfl;rw [e] at h1 h2 h3 ⊢;rw [zq4,cJ] at h2 ⊢;rw [d9,zq25];have hm:∀n∈eC l,n≠"tell it":=fun n hn=>h3 n (dC _ hn);have one:∀n:Str,d.writes=[n]->dy d=n->(dy d∉l.map dy/\(l.map dy).Nodup)/\(l.length+1<=d.writes.length+(eC l).length->("tell it":Str)∉dy d::l.map dy):=fun n hn hu=>by
   rw [hn] at h1 h2 h3 ⊢;rw [List.singleton_append,zq25] at h1;rw [c9] at h2 ⊢;rw [hu];have nt:n≠"tell it":=h3 n Jz;obtain ⟨i1,i2⟩:=ig h1.2 Jy hm;refine ⟨⟨fun z=>?_,i1⟩,fun hl z=>?_⟩
   ·rcases zK z with z | z
    ·exact nt z
    ·exact h1.1 z
   ·rcases zq5.mp z with z | z
    ·exact nt z.symm
    ·exact i2 Jy z
  cases d with
  |tell o=>
   have e0:(FB.Deed.tell o).writes=[]:=rfl;rw [e0] at h1 h2 ⊢;rw [uK] at h2 ⊢;rw [qM] at h1;obtain ⟨i1,i2⟩:=ig h1 Jy hm;refine ⟨⟨i2 Jy,i1⟩,fun hl=>?_⟩;have:=GE (l:=l);omega
  |copy n o=>exact one n rfl rfl
  |op f n o p=>exact one n rfl rfl
def de(l:List FB.Deed):List V:=(List.range 4).map fun s=>V.int (l.countP fun d=>decide (cK d=s))
theorem pT{d:FB.Deed}:cK d<4:=by
 cases d with
 |tell o=>exact (by decide:3<4)
 |copy n o=>exact (by decide:3<4)
 |op f n o p=>
  unfold cK;dsimp only
  split
  ·decide
  ·split
   ·decide
   ·split<;>decide
theorem gi{l:List FB.Deed}{s:Nat}(h:s<4):(de l)[s]?=some (V.int (l.countP fun d=>decide (cK d=s))):=by unfold de;rw [cn,wK h];rfl
theorem xk{l:List FB.Deed}{d:FB.Deed}:(de l).set (cK d) (V.int ((l.countP fun e=>decide (cK e=cK d))+1:Nat))=de (l++[d]):=by
 refine A7 fun j=>?_;rw [List.getElem?_set];have len:(de l).length=4:=by unfold de;rw [zq1,fc]
 by_cases hj:j<4
 ·rw [gi hj,gi hj,Ai,List.countP_singleton]
  by_cases e:cK d=j
  ·subst e;rw [if_pos rfl,if_pos Jy,decide_eq_true rfl,if_pos rfl]
  ·rw [if_neg e,decide_eq_false e,if_neg Jx,Nat.add_zero]
 ·rw [AB Jy,AB (by unfold de;rw [zq1,fc];omega),if_neg (by have:=@pT d;omega)]
def oh(K:W.Frag)(a u:Addr)(H:Hp)(Q:VK):Prop:=∃(xs:List V)(ds:List FB.Deed)(us:List Int),SqL K H a xs/\Paired (DeedV1 K H) xs ds/\ds.length<60/\SqT K H u (us.map V.int)/\us.length=3/\bfB us ds=true/\(∀n∈eC ds,n≠"tell it")/\∀H',Same H H'->Q (.bl true) H'
def q5(K:W.Frag):Sp:=fun vs H Q _=>∃a u:Addr,vs=[.ref a,.ref u]/\oh K a u H Q
theorem BW{a u:Addr}{H:Hp}{Q:VK}{E:XK}:q5 K [.ref a,.ref u] H Q E=oh K a u H Q:=propext ⟨by rintro ⟨_,_,e,q⟩;cases e;exact q,fun q=>zAD _ _ rfl q⟩
theorem y7(T:Txt K mg t):FnOk P w K mg base CX0 2 t.f_155 t.e_155 ["_law_deeds","_law_units"] (q5 K):=by
 have G_154:=@Br P w K mg base t T;refine T.d_155.F.ok sc_155 ∅ ?_;rintro cdv A outer s H vs Q E hr ⟨a,u,rfl,xs,ds,us,ha,hd,hl,hU,h3,hbf,hnt,q⟩;refine ⟨_,
   (XSs.h
   (ai
    (au (i:=2) sc_155.nd rfl ll (aN (cV JA)))
   (ai
    (au (i:=3) sc_155.nd rfl ll (aN ae))
   (ai
    (bG PassesOwn.never rfl (bc (yqv 0 vl)) (aC (i:=4) sc_155.nd rfl ll)
     (ai
      (fG (av bo (aq b7 (yqv 2 vl) (ax T.d_154 G_154 hr.m (aa (yqv 4 vl) ae) gl)) aj) (nM (yqv 2 vl) (ax T.d_154 G_154 hr.m (aa (yqv 4 vl) ae) gl) kD))
     (ai
      (au (i:=5) sc_155.nd rfl ll aF)
     (c7
      (aG (ap me (aq az (yqv 4 vl) aj) aF (aA _))
       (ak
        (au (i:=5) sc_155.nd rfl ll (aq az (yqv 4 vl) aj)))
       aD)
     (ai
      (aG (ap cu (yqv 5 vl) (yqv 3 vl) rfl)
       (ak
        (aw cD))
       aD)
     (ak
      (aR (cg PySem.F.plainAttrs_list PySem.F.slot_list_append PySem.F.type_list_append bg (yqv 3 vl) (aa (yqv 5 vl) ae)))))))))
   (ak
    (aw (gI (bP sC (aq b7 (yqv 2 vl) aj) (aq az (yqv 1 vl) aj) (aA _)) (gI (bP sC (aq b7 (yqv 2 vl) aj) (aq az (yqv 1 vl) aj) (aA _)) (iV (bP sC (aq b7 (yqv 2 vl) aj) (aq az (yqv 1 vl) aj) (aA _))))))))))),?_⟩
 rw [show aP _ [V.ref a,V.ref u]=[some (.ref a),some (.ref u),none,none,none,none] from rfl];simp_arith! [];have lx:=hd.length;unfold bfB at hbf;rw [dB,dB,decide_eq_true_iff,decide_eq_true_iff] at hbf;obtain ⟨⟨b1,b2⟩,b3⟩:=hbf;obtain ⟨nd,_⟩:=ig ((md _).2.2.mp b1) b2 hnt;have load:∀s,s<3->((ds.countP fun d=>decide (cK d=s):Nat):Int)<=uN us s:=fun s hs=>of_decide_eq_true (zq36.mp b3 s (zq40.mpr hs));intro pm hpm;rw [show [V.int 0,V.int 0,V.int 0,V.int 0]=de [] from rfl];have t1:=Same.upd (o:=.lst (de [])) hpm;have em:upd H pm (.lst (de [])) pm=some (.lst (de [])):=ac;refine later ?_;generalize upd H pm (.lst (de []))=H1 at t1 em ⊢;simp_arith! [];intro pu hpu;have t2:=Same.upd (o:=.lst []) hpu;have em2:=t2 _ _ em;have eu:upd H1 pu (.lst []) pu=some (.lst []):=ac;have nmu:pm≠pu:=am em hpu;have s2:=t1.trans t2;have hpu0:=t1.free hpu;refine later ?_;generalize upd H1 pu (.lst [])=H2 at t2 em2 eu s2 ⊢;simp_arith! [yY];refine ⟨⟨_,s2.seq ha⟩,?_⟩;refine dk (xs:=xs) (fun i σ H'=>Same H H'/\H' pm=some (.lst (de (ds.take i)))/\H' pu=some (.lst (((ds.take i).map dy).map V.str))/\∃o4 o5,σ=[some (.ref a),some (.ref u),some (.ref pm),some (.ref pu),o4,o5]) (zAG s2 em2 eu (zAJ _ _ rfl)) (fun i σ H' _ h=>h.1.seq ha) ?_ ?_
 ·rintro i x σ H3 hx ⟨s3,e3,f3,o4,o5,rfl⟩;obtain ⟨d,hd1,q0,rfl,hq0,hf⟩:=Paired.get hd hx;obtain ⟨hi,ei⟩:=zq10.mp hd1;have etk:ds.take (i+1)=ds.take i++[d]:=by rw [eg hi,ei]
  simp_arith! [yY];have l4:(de (ds.take i)).length=4:=by unfold de;rw [zq1,fc]
  have sl:=@pT d;refine zn d (s3.seqT hq0) fun H4 s4=>zAA _ _ (SqL.of (s4 _ _ e3)) (cf (gi sl)) ?_;refine zn d ((s3.trans s4).seqT hq0) fun H5 s5=>?_;have e5:=s5 _ _ (s4 _ _ e3);have f5:=s5 _ _ (s4 _ _ f3);refine zAM pm _ _ (cK d) rfl rfl e5 (by unfold ixN;rw [l4,if_pos Jy,if_pos Jy,jF]) ?_;have ea:(de (ds.take i)).set (cK d) (V.int (((ds.take i).countP fun e=>decide (cK e=cK d):Nat)+1))=de (ds.take (i+1)):=by rw [etk];exact xk
  rw [ea];have s6:=((s3.trans s4).trans s5).updM (o:=.lst (de (ds.take (i+1)))) hpm;have e6:upd H5 pm (.lst (de (ds.take (i+1)))) pm=some (.lst (de (ds.take (i+1)))):=ac;have f6:upd H5 pm (.lst (de (ds.take (i+1)))) pu=some (.lst (((ds.take i).map dy).map V.str)):=by rw [ao nmu.symm];exact f5
  refine later ?_;generalize upd H5 pm (.lst (de (ds.take (i+1))))=H6 at s6 e6 f6 ⊢;simp_arith! [];refine later ?_;simp_arith! [];refine zn (fun σ H'=>H'=H6/\σ=[some (.ref a),some (.ref u),some (.ref pm),some (.ref pu),some (.ref q0),some (.str (dy d))]) ?_ ?_
  ·refine IN hf (s6.seqT hq0) (zn _ rfl ?_)
   cases ht:d.tells with
   |false=>
    rw [if_pos Jx];refine ix1 ht (s6.seqT hq0) ⟨rfl,?_⟩;unfold dy;rw [ht,if_neg Jx]
   |true=>rw [if_neg Jx];refine ⟨rfl,?_⟩;unfold dy;rw [ht,if_pos rfl]
  rintro σ H7 ⟨rfl,rfl⟩;have nin:dy d∉(ds.take i).map dy:=by have z:=(List.Sublist.map dy (List.take_sublist (i+1) ds)).nodup nd;rw [etk,cy,uP,zq59] at z;exact fun hm=>z.2.2 _ hm _ (zq2.mpr rfl) rfl
  refine later ?_;simp_arith! [];refine zAF _ (.inl (SqL.of f6)) rfl (by rw [Ao];exact zq36.mpr fun _ _=>rfl) ?_;rw [dI,decide_eq_false nin,if_neg Jx];refine later ?_;simp_arith! [];refine ⟨.inl ⟨rfl,_,SqL.of f6⟩,zAC _ f6 (by rw [zq1,zq1,dS,sizeLine_eq];omega) ?_⟩;refine zAG (s6.updM hpu0) (by rw [ao nmu];exact e6) ?_ (zAJ _ _ rfl);rw [ac,etk,cy,cy];rfl
 ·rintro σ H3 ⟨s3,e3,f3,o4,o5,rfl⟩;rw [lx,eE] at e3 f3;unfold gT;rwa [];have hu:∀i,i<3->(us.map V.int)[i]?=some (V.int (uN us i)):=fun i hi=>by unfold uN;rw [cn,zq8 Jy,fJ,zq8 Jy];rfl
  refine ⟨_,_,SqL.of e3,cf (j:=0) (gi Jx),_,_,s3.seqT hU,cf (j:=0) (hu 0 Jx),_,rfl,?_⟩;rw [if_pos (decide_eq_true (load 0 Jx))];refine ⟨_,_,SqL.of e3,cf (j:=1) (gi Jx),_,_,s3.seqT hU,cf (j:=1) (hu 1 Jx),_,rfl,?_⟩;rw [if_pos (decide_eq_true (load 1 Jx))];refine zAA _ _ (SqL.of e3) (cf (j:=2) (gi Jx)) (zAA _ _ (s3.seqT hU) (cf (j:=2) (hu 2 Jx)) ?_);have z:=q H3 s3;rw [<- decide_eq_true (load 2 Jx)] at z;exact z
variable {H:Hp}
def lF(K:W.Frag)(f sa ba:Addr)(ov:Bool)(H:Hp)(Q:VK):Prop:=∃(td bx:Addr)(tl sl:List Int)(b b2:Bx)(o:Bool),SqT K H f [.ref td,.ref bx,.bl o]/\H td=some (.lst (tl.map V.int))/\H sa=some (.lst (sl.map V.int))/\H bx=some (.dK b)/\H ba=some (.dK b2)/\sl <+: tl/\(ov=true->o=true/\tl=sl/\b=b2)/\IntD b2/\tl.length<=100000/\∀H',Same H H'->Q (.bl true) H'
def mt(K:W.Frag):Sp:=fun vs H Q _=>∃(f sa ba:Addr)(ov:Bool),vs=[.ref f,.ref sa,.ref ba,.bl ov]/\lF K f sa ba ov H Q
theorem B9{p:Addr}{xs:List V}{Q:VK}(hp:SqT K H p xs)(h:Q (.bl true) H):vU K [.ref p,.ty "tuple"] H Q:=zAO _ _ _ rfl Jv (.tup hp) h
theorem yL{f sa ba:Addr}{ov:Bool}{Q:VK}{E:XK}:mt K [.ref f,.ref sa,.ref ba,.bl ov] H Q E=lF K f sa ba ov H Q:=propext ⟨by rintro ⟨_,_,_,_,e,q⟩;cases e;exact q,fun q=>zAP _ _ _ _ rfl q⟩
theorem C4{n:Nat}{a b:Addr}{xs:List Int}(ha:SqL K H a (xs.map V.int))(hb:SqL K H b (xs.map V.int)):Rq K H n (.ref a) (.ref b) true:=by
 have z:=Rq.lists (n:=n) (fun _=>true) ha hb rfl fun j x y hx hy=>by
  rw [hx] at hy
  cases hy
  rw [cn] at hx;obtain ⟨i,hi,rfl⟩:=zq32.mp hx;have e:true=eqV (.int i) (.int i):=by simp [eqV]
  rw [e];exact .flat rfl rfl
 rwa [show ((List.range (xs.map V.int).length).all fun _=>true)=true by simp] at z
theorem vJ(T:Txt K mg t):FnOk P w K mg base CX0 2 t.f_156 t.e_156 ["_law_found","_law_said","_law_boxes","_law_over"] (mt K):=by
 refine T.d_156.F.ok Gr ∅ ?_;rintro cdv A outer s H vs Q E hr ⟨f,sa,ba,ov,rfl,td,bx,tl,sl,b,b2,o,hf,ht,hs,hb,hb2,hpre,hov,hI,hl,q⟩;have hu:=dE hr;refine ⟨_,
   (XSs.h
   (c7
    (aG (cw (ii (dQ (cj (aK eS gl T.z_isinstance boot_isinstance (aa (yqv 0 vl) (aa (f7 (v:=.ty "tuple") gl T.z_tuple boot_tuple rfl) ae))))) (ii (ap me (aK aJ gl T.z_len PySem.boot_len (aa (yqv 0 vl) ae)) aj (aA _)) (gJ (dQ (cj (aK eS gl T.z_isinstance boot_isinstance (aa (aq az (yqv 0 vl) aj) (aa (f7 (v:=.ty "list") gl T.z_list boot_list rfl) ae)))))))))
     (ak
      (aw cD))
     aD)
   (c7
    (aG (cw (ii (ap (EI (n:=0) (xC Jx hr)) (df iO (aq az (yqv 0 vl) aj) g8 (d7 (aK aJ gl T.z_len PySem.boot_len (aa (yqv 1 vl) ae)))) (yqv 1 vl) (aA _)) (gJ (dQ (cj (aK eS gl T.z_isinstance boot_isinstance (aa (aq az (yqv 0 vl) aj) (aa (f7 (v:=.ty "bool") gl T.z_bool boot_bool rfl) ae))))))))
     (ak
      (aw cD))
     aD)
   (ai
    (aG (cj (yqv 3 vl))
     (ak
      (aw (gI (aq az (yqv 0 vl) aj) (gI (bP aZ (aK aJ gl T.z_len PySem.boot_len (aa (aq az (yqv 0 vl) aj) ae)) (aK aJ gl T.z_len PySem.boot_len (aa (yqv 1 vl) ae)) (aA _)) (iV (bP (vN hr.units0) (aq az (yqv 0 vl) aj) (yqv 2 vl) (aA _)))))))
     aD)
   (ak
    (aw cD)))))),?_⟩
 rw [show aP _ [V.ref f,V.ref sa,V.ref ba,V.bl ov]=[some (.ref f),some (.ref sa),some (.ref ba),some (.bl ov)] from rfl];simp_arith! [];refine zn (fun σ H'=>H'=H/\σ=[some (.ref f),some (.ref sa),some (.ref ba),some (.bl ov)]) ?_ ?_
 ·refine B9 hf (zn _ rfl ?_);rwa [];refine zn _ (.inr hf) ?_;refine xF rfl (zAA _ _ hf rfl (zAO _ _ _ rfl Jv (.lst (SqL.of ht)) (zn _ rfl ?_)));exact xF trivial rfl
 rintro σ H1 ⟨rfl,rfl⟩;refine later ?_;simp_arith! [];refine zn (fun σ H'=>Same H1 H'/\σ=[some (.ref f),some (.ref sa),some (.ref ba),some (.bl ov)]) ?_ ?_
 ·refine zAA _ _ hf rfl (zn _ (.inl (SqL.of hs)) (zAA _ _ rfl (SqL.of ht) fun p1 hp1=>?_));rw [sU Jy,jF,zq1,<- uR,<- List.prefix_iff_eq_take.mp hpre];have t1:=Same.upd (o:=.lst (sl.map V.int)) hp1;refine zn true (C4 (SqL.of ac) (SqL.of (t1 _ _ hs))) (zn _ rfl ?_);rw [if_neg Jx];refine zAA _ _ (t1.seqT hf) rfl (zAO _ _ _ rfl Jv .bl (zn _ rfl (xF trivial ⟨t1,rfl⟩)))
 rintro σ H2 ⟨s2,rfl⟩;refine later ?_;rwa []
 cases ov with
 |false=>
  rw [if_neg Jx];exact q _ s2
 |true=>obtain ⟨rfl,rfl,rfl⟩:=hov rfl;rw [if_pos rfl];refine zAA _ _ (s2.seqT hf) rfl (zn _ rfl ?_);rw [if_pos rfl];refine zAA _ _ (s2.seqT hf) rfl (zAA td _ rfl (.inl (SqL.of (s2 _ _ ht))) (zn _ (.inl (SqL.of (s2 _ _ hs))) ?_));rw [if_pos (decide_eq_true rfl)];refine zAA _ _ (s2.seqT hf) rfl (zBE bx ba _ _ rfl rfl (.inl (s2 _ _ hb)) (.inl (s2 _ _ hb2)) hI.flat hI.flat ?_);rw [hI.self];exact q _ s2
variable {ks:List Str} {n:Str}
def dF(l:List Str):List Str:=l.foldl (fun ks n=>if n∈ks then ks else ks++[n]) []
theorem fq{l:List Str}:dF (l++[n])=if n∈dF l then dF l else dF l++[n]:=by unfold dF;rw [qJ];rfl
def bxM(ks:List Str)(f:Str->Int):Bx:=ks.map fun n=>(.inr n,.int (f n))
theorem jI{f:Str->Int}{v:Int}:bv (bxM ks f) (.inr n) (.int v)=bxM (if n∈ks then ks else ks++[n]) (fun m=>if m=n then v else f m):=by
 have ha:((bxM ks f).any fun kv=>decide (kv.1=(Sum.inr n:Key)))=decide (n∈ks):=by
  unfold bxM;rw [Ap,qE,zq78,decide_eq_true_iff]
  constructor
  ·rintro ⟨m,hm,e⟩;have z:(Sum.inr m:Key)=Sum.inr n:=of_decide_eq_true e
   cases z
   exact hm
  ·exact fun h=>zn n h (decide_eq_true rfl)
 unfold bv;rw [ha]
 by_cases h:n∈ks
 ·rw [if_pos (decide_eq_true h),if_pos h];unfold bxM;rw [jH];refine wM fun m hm=>?_;dsimp only [Function.comp]
  by_cases e:m=n
  ·subst e;rw [if_pos rfl,if_pos rfl]
  ·rw [if_neg (fun z=>e (Sum.inr.inj z)),if_neg e]
 ·rw [if_neg (by simp [h]),if_neg h];unfold bxM;rw [cy,uP];dsimp only;rw [if_pos rfl];congr 1;refine wM fun m hm=>?_;rw [if_neg (fun (e:m=n)=>h (e ▸ hm))]
theorem lW:∀(k:Nat)(l:List Str),l.length=k->(dF l).length<=k
 |0,l,h=>by
  obtain rfl:=zq42.mp h;exact zq0 _
 |k+1,l,h=>by
  obtain ⟨l',x,rfl⟩:∃l' x,l=l'++[x]:=⟨l.dropLast,l.getLast (by intro z;rw [z] at h;simp at h),(sF _).symm⟩
  have:=lW k l' (by rw [zq4,c9] at h;omega);rw [fq]
  split
  ·omega
  ·rw [zq4,c9];omega
theorem jX{ins:List Str}{ws:Bx}:∀(k:Nat)(l:List Str),l.length=k->aV ins ws l=bxM (dF l) fun n=>if n∈ins then aH ws n else 0
 |0,l,h=>by
  obtain rfl:=zq42.mp h;rfl
 |k+1,l,h=>by
  obtain ⟨l',x,rfl⟩:∃l' x,l=l'++[x]:=⟨l.dropLast,l.getLast (by intro z;rw [z] at h;simp at h),(sF _).symm⟩
  rw [eG,jX k l' (by rw [zq4,c9] at h;omega),jI,fq];congr 1
  funext m
  by_cases e:m=x
  ·subst e;rw [if_pos rfl]
  ·rw [if_neg e]
theorem AW{ins:List Str}{ws:Bx}(h:n∉ins):bv (bxM ks fun m=>if m∈ins then aH ws m else 0) (.inr n) (.int 0)=bxM (if n∈ks then ks else ks++[n]) fun m=>if m∈ins then aH ws m else 0:=by
 rw [jI];congr 1
 funext m
 by_cases e:m=n
 ·subst e;rw [if_pos rfl,if_neg h]
 ·rw [if_neg e]
theorem E8{ins:List Str}{ws:Bx}{v:Int}(h:n∈ins):bv (bv (bxM ks fun m=>if m∈ins then aH ws m else 0) (.inr n) (.int 0)) (.inr n) (.int v)=bxM (if n∈ks then ks else ks++[n]) fun m=>if m∈ins then aH (bv ws (.inr n) (.int v)) m else 0:=by
 rw [jI,jI];have e0:n∈(if n∈ks then ks else ks++[n]):=by split<;>simp [*]
 rw [if_pos e0];congr 1
 funext m
 rw [j2]
 by_cases e:m=n
 ·subst e;rw [if_pos rfl,if_pos h,if_pos rfl]
 ·rw [if_neg e,if_neg e,if_neg e]
theorem iD{c:Int}(h:n∈cv c):n≠"tell it":=by
 rintro rfl;unfold cv at h
 split at h
 ·revert h;decide +kernel
 ·unfold nms at h;obtain ⟨k,_,e⟩:=zq23.mp h;have:=congrArg Str.length e;rw [rn] at this;have l7:("tell it":Str).length=7:=by decide +kernel
  rw [l7] at this;have:=gc (d3 c 3) (show (0:Int)<6 by decide);omega
theorem Fn{C p a0 b0 r0:Addr}{d:Nat}{wd:Int}{H:Hp}{Q:VK}{E:XK}:uh K C d [.ref p,.int wd,.ref a0,.ref b0,.ref r0] H Q E=sL K C d p a0 b0 r0 wd H Q:=propext ⟨by rintro ⟨_,_,_,_,_,e,q⟩;cases e;exact q,fun q=>zAS _ _ _ _ _ ⟨rfl,q⟩⟩
theorem EA(T:Txt K mg t)(hw:t.pr=w.params):FnOk P w K mg base CX0 46 t.f_157 t.e_157 ["_law_script"] (sp_law K):=by
 have G_143:=@kl P w K mg base t T;have G_144:=@ya P w K mg base t T;have G_149:=@rq P w K mg base t T;have G_109:=@Bj P w K mg base t T 9;have G_136:=@ED P w K mg base t T;have G_153:=@Bm P w K mg base t T;have G_137:=@ye P w K mg base t T hw 9;have G_142:=@vK P w K mg base t T;have G_155:=@y7 P w K mg base t T;have G_156:=@vJ P w K mg base t T;refine T.d_157.F.ok sc_157 ∅ ?_;rintro cdv A outer s H vs Q E hr ⟨a,ns,rfl,hS,hlen,hbits,q⟩;have hu:=dE hr;refine ⟨_,
   (XSs.h
   (ai
    (au (i:=1) sc_157.nd rfl ll (df iO (yqv 0 vl) (d7 aj) (d7 aj)))
   (ai
    (au (i:=2) sc_157.nd rfl ll aj)
   (c7
    (aG (ap ij (aK aJ gl T.z_len PySem.boot_len (aa (yqv 0 vl) ae)) aj (aA _))
     (ak
      (au (i:=2) sc_157.nd rfl ll (aq b7 (yqv 0 vl) aj)))
     aD)
   (ai
    (au (i:=3) sc_157.nd rfl ll (av bo aj (av aX (yqv 2 vl) aj)))
   (ai
    (au (i:=4) sc_157.nd rfl ll (df iO (ax T.d_144 G_144 hr.m (aa (yqv 2 vl) ae) gl) g8 (d7 (av aX (av bh (yqv 2 vl) aj) aj))))
   (ai
    (au (i:=5) sc_157.nd rfl ll (df iO (ax T.d_144 G_144 hr.m (aa (yqv 2 vl) ae) gl) (d7 aj) (d7 (av bo aj (av aX (av bh (yqv 2 vl) aj) aj)))))
   (ai
    (au (i:=6) sc_157.nd rfl ll (ax T.d_149 G_149 hr.m (aa (yqv 1 vl) (aa (av eN (yqv 4 vl) (yqv 5 vl)) (aa (yqv 3 vl) (aa aj ae)))) gl))
   (ai
    (au (i:=7) sc_157.nd rfl ll (gK T.c_Program T.d_109 G_109 hr.m (aa (yqv 3 vl) (aa (yqv 4 vl) (aa (yqv 5 vl) (aa (yqv 6 vl) ae)))) gl))
   (ai
    (au (i:=8) sc_157.nd rfl ll jf)
   (ai
    (au (i:=9) sc_157.nd rfl ll jf)
   (c7
    (bG PassesOwn.never rfl (kO T.z_enumerate (aa (av eN (yqv 4 vl) (yqv 5 vl)) ae) gl) (dP rfl (aU (aC (i:=10) sc_157.nd rfl ll) (aU (aC (i:=11) sc_157.nd rfl ll) d6)))
     (ai
      (dz hu (yqv 9 vl) (yqv 11 vl) aj rfl)
     (ak
      (aG (ap cu (yqv 11 vl) (yqv 4 vl) rfl)
       (ai
        (dz hu (yqv 8 vl) (yqv 11 vl) (av aX (ax T.d_143 G_143 hr.m (aa (yqv 2 vl) (aa (av bo aj (yqv 10 vl)) ae)) gl) (av eK aj (yqv 3 vl))) rfl)
       (ak
        (dz hu (yqv 9 vl) (yqv 11 vl) (cE hu (yqv 8 vl) (yqv 11 vl) (fun _ _=>rfl)) rfl)))
       aD))))
   (ai
    (au (i:=12) sc_157.nd rfl ll (av aX (av bh (yqv 2 vl) aj) aj))
   (ai
    (fG (ax T.d_153 G_153 hr.m (aa (yqv 6 vl) (aa (yqv 9 vl) (aa (yqv 3 vl) (aa (yqv 12 vl) ae)))) gl) (dP rfl (aU (aC (i:=13) sc_157.nd rfl ll) (aU (aC (i:=14) sc_157.nd rfl ll) (aU (aC (i:=15) sc_157.nd rfl ll) d6)))))
   (c7
    (aG (ap (yi (xC (n:=2) Jx hr)) (ax T.d_136 G_136 hr.m (aa (yqv 7 vl) (aa (yqv 8 vl) (aa (yqv 12 vl) ae))) gl) (aI (aa (yqv 13 vl) (aa (yqv 9 vl) (aa (yqv 14 vl) ae)))) (aA _))
     (ak
      (aw cD))
     aD)
   (ai
    (bG PassesOwn.never rfl (bc (aN (aa (aI (cV JA)) (aa (aI (aa (av bo aj (av aX (av bh (yqv 2 vl) aj) aj)) (aa (av bo aj (av aX (av bh (yqv 2 vl) aj) aj)) (aa aj ae)))) ae)))) (aC (i:=16) sc_157.nd rfl ll)
     (ai
      (au (i:=17) sc_157.nd rfl ll (ax T.d_137 G_137 hr.m (aa (yqv 7 vl) (aa (yqv 16 vl) ae)) gl))
     (c7
      (bG PassesOwn.never rfl (bc (yqv 17 vl)) (aC (i:=18) sc_157.nd rfl ll)
       (ak
        (aG (dQ (cj (ax T.d_155 G_155 hr.m (aa (aq az (yqv 18 vl) aj) (aa (yqv 16 vl) ae)) gl)))
         (ak
          (aw cD))
         aD)))
     (ak
      (aG (dQ (cj (ax T.d_156 G_156 hr.m (aa (ax T.d_142 G_142 hr.m (aa (yqv 7 vl) (aa (yqv 17 vl) (aa (yqv 8 vl) (aa (av bo (av d8 aj (yqv 12 vl)) aj) ae)))) gl) (aa (yqv 13 vl) (aa (yqv 9 vl) (aa (yqv 14 vl) ae)))) gl)))
       (ak
        (aw cD))
       aD)))))
   (ak
    (aw cD)))))))))))))))))),?_⟩
 rw [show aP _ [V.ref a]=some (.ref a)::List.replicate 18 none from rfl];simp_arith! [List.replicate_succ,List.replicate_zero];have hcut:gM (ns.map V.int) (some 1) (some 63)=((ns.take 63).drop 1).map V.int:=by rw [oJ Jx Jx,List.map_drop,uR];rfl
 refine zn _ hS fun pc hpc=>?_;rw [hcut];have hm2:∀z∈(ns.take 63).drop 1,Builtin.Int.intBits z<=2 ^ 20:=fun z hz=>hbits z (wO (List.mem_of_mem_drop hz));have hl2:((ns.take 63).drop 1).length<=63:=by rw [Ax,dS];omega
 generalize (ns.take 63).drop 1=cs at hm2 hl2 ⊢;have s1:=Same.upd (o:=.lst (cs.map V.int)) hpc;refine later ?_;simp_arith! [];refine later ?_;simp_arith! [];refine ⟨fun σ H'=>H'=upd H pc (.lst (cs.map V.int))/\∃c0:Int,Builtin.Int.intBits c0<=2 ^ 20/\σ=[some (.ref a),some (.ref pc),some (.int c0),none,none,none,none,none,none,none,none,none,none,none,none,none,none,none,none],?_,?_⟩
 ·refine zn _ (.inl (s1.seq hS)) (aB (fun h=>?_) (fun h=>?_))
  ·rw [zq1] at h;have h0:(ns.map V.int)[0]?=some (.int ns[0]):=by rw [cn,zq8 Jy];rfl
   exact zAE _ _ (s1.seq hS) (cf h0) rfl (zn (ns[0]) (hbits _ (nQ _)) rfl)
  ·exact ⟨rfl,zn 3 Jx rfl⟩
 rintro σ H1 ⟨rfl,c0,hb0,rfl⟩;have hcs:upd H pc (.lst (cs.map V.int)) pc=some (.lst (cs.map V.int)):=ac;generalize upd H pc (.lst (cs.map V.int))=H1 at s1 hcs ⊢;refine later ?_;simp_arith! [];have w0:0<=c0 % 4:=eO _ Jx;have w7:c0 % 4<4:=gc _ Jx;have k0:0<=c0 / 4 % 4:=eO _ Jx;have j0:0<=c0 / 16 % 2:=eO _ Jx;have hl8:(cv c0).length=8:=by
  unfold cv
  split
  ·rfl
  ·unfold nms;simp
 refine later ?_;simp_arith! [u7];refine ⟨hb0,fun p2 H2 s2 hp2 hn2=>⟨CDivB.small Jx Jx,zn _ (SqL.of hn2) fun pi hpi=>?_⟩⟩;rw [sU k0,<- uR];refine later ?_;simp_arith! [u7];refine ⟨hb0,fun p3 H3 s3 hp3 hn3=>⟨CDivB.small Jx Jx,zn _ (SqL.of hn3) fun po hpo=>?_⟩⟩;have si:=Same.upd (o:=.lst (((cv c0).take (c0 / 4 % 4).toNat).map V.str)) hpi;have hi3:H3 pi=some (.lst (((cv c0).take (c0 / 4 % 4).toNat).map V.str)):=s3 _ _ ac;have hcutO:gM ((cv c0).map V.str) (some 4) (some (5+c0 / 16 % 2))=(((cv c0).take (5+c0 / 16 % 2).toNat).drop 4).map V.str:=by rw [oJ Jx Jy,List.map_drop,uR];rfl
 rw [hcutO];have so:=Same.upd (o:=.lst ((((cv c0).take (5+c0 / 16 % 2).toNat).drop 4).map V.str)) hpo;have li:((cv c0).take (c0 / 4 % 4).toNat).length<=8:=by rw [dS];omega
 have lo:(((cv c0).take (5+c0 / 16 % 2).toNat).drop 4).length<=8:=by rw [Ax,dS];omega
 have nt:∀n∈(cv c0).take (c0 / 4 % 4).toNat++((cv c0).take (5+c0 / 16 % 2).toNat).drop 4,n≠"tell it":=fun n hn=>by
  rcases zq11.mp hn with z | z
  ·exact iD (wO z)
  ·exact iD (wO (List.mem_of_mem_drop z))
 generalize (cv c0).take (c0 / 4 % 4).toNat=ins at *;generalize ((cv c0).take (5+c0 / 16 % 2).toNat).drop 4=oth at *;have ho4:upd H3 po (.lst (oth.map V.str)) po=some (.lst (oth.map V.str)):=ac;have hi4:upd H3 po (.lst (oth.map V.str)) pi=some (.lst (ins.map V.str)):=so _ _ hi3;have s4:Same H (upd H3 po (.lst (oth.map V.str))):=(((s1.trans s2).trans si).trans s3).trans so;have hc4:upd H3 po (.lst (oth.map V.str)) pc=some (.lst (cs.map V.int)):=so _ _ (s3 _ _ (si _ _ (s2 _ _ hcs)));refine later ?_;generalize upd H3 po (.lst (oth.map V.str))=H4 at s4 hc4 hi4 ho4 ⊢;clear so si s3 hi3 hn3 hp3 s2 hpi hpo hn2 hp2 hcut hcutO hl8 hcs s1;simp_arith! [vY];refine zAE _ _ hi4 ho4 (by rw [zq1,zq1,sizeLine_eq];omega) fun pb hpb=>?_;have sb:=Same.upd (o:=.lst (ins.map V.str++oth.map V.str)) hpb;refine zAJ cs (ins++oth) (zAR (SqL.of (sb _ _ hc4)) hl2 hm2 (SqL.of (by rw [ac,cy])) Jy Jy fun pr xs f H5 s5 hr5 hst hnd hfr=>?_);have s45:=sb.trans s5;have g5:=rL (cs:=cs) (ns:=ins++oth) (w:=1+c0 % 4) (most:=14) Jx;generalize hV cs (ins++oth) (1+c0 % 4) 14=ss at hst g5;have hi5:=s45 _ _ hi4;have ho5:=s45 _ _ ho4;have sH5:=s4.trans s45;clear s45 s5 sb hc4 hi4 ho4 hpb hnd hfr s4;refine later ?_;simp_arith! [];intro pp dx hpp hdx hne;simp_arith! [Fn];have s6:Same H5 (upd (upd H5 dx (.own pp)) pp (.ins t.C_Program dx [])):=(Same.upd hdx).updM hpp;refine zBB dx ins oth xs ss f (zBN ac (s6 _ _ hi5) (s6 _ _ ho5) (s6 _ _ hr5) (hst.same s6) Jy Jy Jy Jy fun a' b' r' ys g H7 sx hP _ _=>⟨rfl,?_⟩);have s7:Same H5 H7:=fun c' o' e=>sx c' o' (s6 _ _ e) (am e hpp);obtain ⟨wd,hwd⟩:∃wd,wd=1+c0 % 4:=⟨_,rfl⟩
 rw [<- hwd] at hP g5 ⊢;have hi7:=s7 _ _ hi5;have ho7:=s7 _ _ ho5;have hr7:=s7 _ _ hr5;have hst7:=hst.same s7;have sH7:=sH5.trans s7;clear s7 sx s6 hi5 ho5 hr5 hst hpp hdx sH5;refine later ?_;simp_arith! [];intro pw hpw;have t8:=Same.upd (o:=.dK []) hpw;have ew:upd H7 pw (.dK []) pw=some (.dK []):=ac;refine later ?_;generalize upd H7 pw (.dK [])=H8 at t8 ew ⊢;simp_arith! [];intro px hpx;have t9:=Same.upd (o:=.dK []) hpx;have ex:upd H8 px (.dK []) px=some (.dK []):=ac;have ew9:=t9 _ _ ew;have npx:pw≠px:=am ew hpx;have hpx7:=t8.free hpx;have s79:=t8.trans t9;refine later ?_;generalize upd H8 px (.dK [])=H9 at t9 ex ew9 s79 ⊢;simp_arith! [];have w1:1<=wd:=by omega
 have w8:wd<=4:=by omega
 have hp2:(0:Int)<1 * 2 ^ wd.toNat:=by rw [nR];exact qH Jx
 refine ⟨fun σ H'=>(Same H7 H'/\∃ws:Bx,H' pw=some (.dK ws)/\H' px=some (.dK (aV ins ws (ins++oth)))/\IntD ws/\∀n∈ins,∃x,jC ws n=some x/\0<=x/\x<2 ^ wd.toNat)/\∃o10 o11,σ=[some (.ref a),some (.ref pc),some (.int c0),some (.int wd),some (.ref pi),some (.ref po),some (.ref pr),some (.ref pp),some (.ref pw),some (.ref px),o10,o11,none,none,none,none,none,none,none],zAE _ _ (s79 _ _ hi7) (s79 _ _ ho7) (by rw [zq1,zq1,sizeLine_eq];omega) fun pb hpb=>⟨⟨_,SqL.of ac⟩,?_⟩,?_⟩
 ·rw [<- cy];have tb:=Same.upd (o:=.lst ((ins++oth).map V.str)) hpb;have hpl:upd H9 pb (.lst ((ins++oth).map V.str)) pb=some (.lst ((ins++oth).map V.str)):=ac;generalize upd H9 pb (.lst ((ins++oth).map V.str))=H10 at tb hpl ⊢;refine mP (xs:=(ins++oth).map V.str) (fun i σ H'=>(Same H7 H'/\H' pb=some (.lst ((ins++oth).map V.str))/\∃ws:Bx,H' pw=some (.dK ws)/\H' px=some (.dK (bxM (dF ((ins++oth).take i)) fun m=>if m∈ins then aH ws m else 0))/\ws.length<=i/\IntD ws/\∀n∈ins,n∈(ins++oth).take i->∃x,jC ws n=some x/\0<=x/\x<2 ^ wd.toNat)/\∃o10 o11,σ=[some (.ref a),some (.ref pc),some (.int c0),some (.int wd),some (.ref pi),some (.ref po),some (.ref pr),some (.ref pp),some (.ref pw),some (.ref px),o10,o11,none,none,none,none,none,none,none])
   ⟨zAB (s79.trans tb) hpl (zAZ ([]) (tb _ _ ew9) (tb _ _ ex) (zq0 _) IntD.nil fun n _ hn=>by simp at hn),zAJ _ _ rfl⟩ (fun i σ H' _ h=>SqL.of h.1.2.1) ?_ ?_
  ·rintro i x σ H' pq hx hpq ⟨⟨sm,hl,ws,hws,hbx,lws,hI,hin⟩,o10,o11,rfl⟩;rw [cn] at hx;obtain ⟨n,hn,rfl⟩:=zq32.mp hx;obtain ⟨hi,hne⟩:=zq10.mp hn;have etk:(ins++oth).take (i+1)=(ins++oth).take i++[n]:=by rw [eg hi,hne]
   have lal:(ins++oth).length<=16:=by rw [zq4];omega
   have lbx:(bxM (dF ((ins++oth).take i)) fun m=>if m∈ins then aH ws m else 0).length<=16:=by unfold bxM;rw [zq1];have:=lW _ ((ins++oth).take i) rfl;rw [dS] at this;omega
   simp_arith! [];refine zAC _ (SqT.of ac) rfl ?_;have sq:=Same.upd (o:=.tup [V.int i,V.str n]) hpq;have hws1:=sq _ _ hws;have hbx1:=sq _ _ hbx;have hl1:=sq _ _ hl;have sm1:=sm.trans sq;generalize upd H' pq (.tup [V.int i,V.str n])=H11 at sq hws1 hbx1 hl1 sm1 ⊢;simp_arith! [];refine zn _ (DPut.k (k:=.inr n) hbx1 (by rw [sizeLine_eq];omega)) ?_;refine later ?_;have sm2:=sm1.updM (o:=.dK (bv (bxM (dF ((ins++oth).take i)) fun m=>if m∈ins then aH ws m else 0) (.inr n) (.int 0))) hpx7;have hbx2:upd H11 px (.dK (bv (bxM (dF ((ins++oth).take i)) fun m=>if m∈ins then aH ws m else 0) (.inr n) (.int 0))) px=some (.dK (bv (bxM (dF ((ins++oth).take i)) fun m=>if m∈ins then aH ws m else 0) (.inr n) (.int 0))):=ac;have hws2:upd H11 px (.dK (bv (bxM (dF ((ins++oth).take i)) fun m=>if m∈ins then aH ws m else 0) (.inr n) (.int 0))) pw=some (.dK ws):=by rw [ao npx];exact hws1
   have hl2':upd H11 px (.dK (bv (bxM (dF ((ins++oth).take i)) fun m=>if m∈ins then aH ws m else 0) (.inr n) (.int 0))) pb=some (.lst ((ins++oth).map V.str)):=by rw [ao (bw hl1 hbx1 (by intro z;cases z))];exact hl1
   generalize upd H11 px (.dK (bv (bxM (dF ((ins++oth).take i)) fun m=>if m∈ins then aH ws m else 0) (.inr n) (.int 0)))=H12 at sm2 hbx2 hws2 hl2' ⊢;simp_arith! [];refine zAF _ (.inl (SqL.of (sm2 _ _ hi7))) rfl (by rw [Ao];exact zq36.mpr fun _ _=>rfl) ?_;rw [dI];refine aB (fun hni=>?_) (fun hni=>?_)
   ·simp_arith! [iL];refine zAQ hb0 Jy Jy (zAB Jy Jy Jx) hp2 (zn _ (DPut.k (k:=.inr n) hws2 (by rw [sizeLine_eq];omega)) ?_);refine later ?_;have hv0:=eO (d3 c0 (60+↑i)) (show (1 * 2 ^ wd.toNat:Int)≠0 by omega);have hv1:=gc (d3 c0 (60+↑i)) hp2;generalize d3 c0 (60+↑i) % (1 * 2 ^ wd.toNat)=v at hv0 hv1 ⊢;rw [nR] at hv1;have sm3:=sm2.updM (o:=.dK (bv ws (.inr n) (.int v))) hpw;have hws3:upd H12 pw (.dK (bv ws (.inr n) (.int v))) pw=some (.dK (bv ws (.inr n) (.int v))):=ac;have hbx3:=(ao (H:=H12) (o:=.dK (bv ws (.inr n) (.int v))) npx.symm).trans hbx2;have hl3:=(ao (H:=H12) (o:=.dK (bv ws (.inr n) (.int v))) (bw hl2' hws2 (by intro z;cases z))).trans hl2';generalize upd H12 pw (.dK (bv ws (.inr n) (.int v)))=H13 at sm3 hws3 hbx3 hl3 ⊢;rwa [];have lb2:=cT (bxM (dF ((ins++oth).take i)) fun m=>if m∈ins then aH ws m else 0) (.inr n) (.int 0);have lw2:=cT ws (.inr n) (.int v);refine zAA pw (.int v) rfl (by have z:=DGet.k (k:=.inr n) hws3;rw [qC,if_pos rfl] at z;exact z) (zAC _ (DPut.k (k:=.inr n) hbx3 (by rw [sizeLine_eq];omega)) (zAB (sm3.updM hpx7) ?_ (zAZ (bv ws (.inr n) (.int v)) ?_ ?_ Jy (hI.put _ _) fun n' h1 h2=>?_)) (zAJ _ _ rfl))
    ·rw [ao (bw hl3 hbx3 (by intro z;cases z))];exact hl3
    ·rw [ao npx];exact hws3
    ·rw [ac,E8 hni,etk,fq]
    ·rw [iU]
     by_cases e:n'=n
     ·rw [if_pos e];exact zAC v rfl hv0 hv1
     ·rw [if_neg e];rw [etk] at h2;rcases zq11.mp h2 with z | z
      ·exact hin n' h1 z
      ·exact absurd (zq2.mp z) e
   ·refine ⟨zAB sm2 hl2' (zAZ ws hws2 (by rw [hbx2,AW hni,etk,fq]) Jy hI fun n' h1 h2=>?_),zAJ _ _ rfl⟩;rw [etk] at h2;rcases zq11.mp h2 with z | z
    ·exact hin n' h1 z
    ·rw [zq2.mp z] at h1;exact absurd h1 hni
  ·rintro σ H' ⟨⟨sm,hl,ws,hws,hbx,lws,hI,hin⟩,o10,o11,rfl⟩;rw [zq1,eE] at hbx hin;exact ⟨⟨sm,zAF ws hws (by rw [hbx,jX _ _ rfl]) hI fun n hn=>hin n hn (jD _ hn)⟩,zAJ _ _ rfl⟩
 rintro σ H10 ⟨⟨s10,ws,hws,hbx,hI,hin⟩,o10,o11,rfl⟩;clear s79 t9 t8 ew ew9 ex;refine later ?_;simp_arith! [];have m0:0<=c0 / 512 % 31:=eO _ Jx;have m1:c0 / 512 % 31<31:=gc _ Jx;refine ⟨CDivB.small Jx Jx,later ?_⟩;generalize c0 / 512 % 31=m at m0 m1 ⊢;have lal:(ins++oth).length<=16:=by rw [zq4];omega
 have hPI:∀{H'},Same H7 H'->H' pw=some (.dK ws)->ProgIn K t.C_Program H' pp pw wd ins oth ss ws:=fun s' e'=>zAR (zAS _ _ _ _ _ (hP.same s')) ⟨.inl e',hin⟩ w1 Jy Jy g5.1 Jy
 have sg:=(hPI s10 hws).sg;have sgk:=sg.run m.toNat;simp_arith! [Fy];refine zAS xs ss f _ (ins++oth) (zAR (s10 _ _ hr7) (hst7.same s10) hbx sg m0 Jy fun p13 td k H11 sx htd e11 ht11 hb11=>?_);have s11:Same H7 H11:=fun c o e=>sx c o (s10 c o e) (am e hpx7);have hw11:=sx _ _ hws npx;refine zAC _ (SqT.of e11) rfl ?_;obtain ⟨ov,hov⟩:∃ov,ov=decide ((bL wd m.toNat ⟨ss,aV ins ws (ins++oth),[]⟩).left.length=0):=⟨_,rfl⟩
 rw [<- hov];clear e11 sx;simp_arith! [];refine later ?_;simp_arith! [Ie];refine zn (fun σ H'=>Same H11 H'/\σ=[some (.ref a),some (.ref pc),some (.int c0),some (.int wd),some (.ref pi),some (.ref po),some (.ref pr),some (.ref pp),some (.ref pw),some (.ref px),o10,o11,some (.int m),some (.ref td),some (.bl ov),some (.int k),none,none,none]) ?_ ?_
 ·refine zBD wd ins oth ss ws (hPI s11 hw11) Jy fun p2 td2 bx2 H12 s12 f1 f2 g1 g2 g3 p3 hp3=>?_;rw [<- hov] at g1;have t3:=Same.upd (o:=.tup [V.ref td,V.ref px,V.bl ov]) hp3;have s13:=s12.trans t3;refine zAV p2 p3 td2 bx2 td px ov _ _ (zBP rfl rfl (SqT.of (t3 _ _ g1)) (SqT.of ac) (am ht11 f1).symm (am hb11 f2).symm (SqL.of (t3 _ _ g2)) (SqL.of (s13 _ _ ht11)) (.inl (t3 _ _ g3)) (.inl (s13 _ _ hb11)) sgk.bx.isI.flat sgk.bx.isI.self (zn _ rfl ?_));rw [if_neg Jx];exact ⟨s13,rfl⟩
 rintro σ H12 ⟨s12,rfl⟩;refine later ?_;simp_arith! [];intro p1 hp1;refine zAB (CDivB.small Jx Jx) (CDivB.small Jx Jx) fun p2 hp2' pl hpl=>?_;have t1:=Same.upd (o:=.tup [V.int 1,V.int 1,V.int 1]) hp1;have t2:=Same.upd (o:=.tup [V.int (1+c0 / 32 % 3),V.int (1+c0 / 96 % 3),V.int 3]) hp2';have t3:=Same.upd (o:=.lst [V.ref p1,V.ref p2]) hpl;have eu1:=t3 _ _ (t2 _ _ (show upd H12 p1 (.tup [V.int 1,V.int 1,V.int 1]) p1=some (.tup [V.int 1,V.int 1,V.int 1]) from ac));have eu2:=t3 _ _ (show upd (upd H12 p1 (.tup [V.int 1,V.int 1,V.int 1])) p2 (.tup [V.int (1+c0 / 32 % 3),V.int (1+c0 / 96 % 3),V.int 3]) p2=some (.tup [V.int (1+c0 / 32 % 3),V.int (1+c0 / 96 % 3),V.int 3]) from ac);have epl:upd (upd (upd H12 p1 (.tup [V.int 1,V.int 1,V.int 1])) p2 (.tup [V.int (1+c0 / 32 % 3),V.int (1+c0 / 96 % 3),V.int 3])) pl (.lst [V.ref p1,V.ref p2]) pl=some (.lst [V.ref p1,V.ref p2]):=ac;have s13:=s12.trans ((t1.trans t2).trans t3);refine ⟨⟨_,SqL.of epl⟩,?_⟩;generalize upd (upd (upd H12 p1 (.tup [V.int 1,V.int 1,V.int 1])) p2 (.tup [V.int (1+c0 / 32 % 3),V.int (1+c0 / 96 % 3),V.int 3])) pl (.lst [V.ref p1,V.ref p2])=H13 at eu1 eu2 epl s13 ⊢;clear t1 t2 t3 hp1 hp2' hpl s12;obtain ⟨ks,hks,lks⟩:=GO.oW (ins:=ins) (ws:=ws) (ins++oth);have hBK:BK (ins++oth) wd ks (aV ins ws (ins++oth)):=⟨fQ ((hPI s10 hws).2.1.get) Jy,hks⟩
 refine dk (xs:=[.ref p1,.ref p2]) (fun i σ H'=>Same H13 H'/\∃o16 o17 o18,σ=[some (.ref a),some (.ref pc),some (.int c0),some (.int wd),some (.ref pi),some (.ref po),some (.ref pr),some (.ref pp),some (.ref pw),some (.ref px),o10,o11,some (.int m),some (.ref td),some (.bl ov),some (.int k),o16,o17,o18]) ⟨Same.refl _,zAH _ _ _ rfl⟩ (fun i σ H' _ h=>SqL.of (h.1 _ _ epl)) ?_ ?_
 ·rintro i x σ H14 hx ⟨s14,o16,o17,o18,rfl⟩;obtain ⟨ut,us,rfl,h3,hp3,eu⟩:∃(ut:Addr)(us:List Int),x=.ref ut/\us.length=3/\(∀z∈us,0<z/\z<=3)/\H13 ut=some (.tup (us.map V.int)):=by
   have hm:=zq9 hx;simp only [List.mem_cons,List.not_mem_nil,or_false] at hm;rcases hm with z | z
   ·exact zAE p1 ([1,1,1]) z rfl Jx eu1
   ·refine zAE p2 ([1+c0 / 32 % 3,1+c0 / 96 % 3,3]) z rfl (fun z hz=>?_) eu2;simp only [List.mem_cons,List.not_mem_nil,or_false] at hz;rcases hz with rfl | rfl | rfl<;>omega
  have s1114:=s13.trans s14;have s714:=s11.trans s1114;simp_arith! [C0];refine ⟨wd,ins,oth,ss,a',b',r',ys,g,us,ins++oth,hP.same s714,Jy,Jy,g5.1,SqT.of (s14 _ _ eu),h3,hp3,fun tb ts bbs H15 s15 htb0 htb hL hts=>?_⟩;have up:∀s,s<3->0<=uN us s:=fun s hs=>As (nJ h3 hp3 s hs);have lB:=FZ.ip ss;have hG:=FZ.jP g5.1;obtain ⟨g1',g2',g3',g4'⟩:=zG hG lB.2 hL up;have lt:=hts.length;have hlB:=hL.length;have hm0:(bA bbs).getD 0 0=0:=(gk (fun bs hbs=>by obtain ⟨i,hi⟩:=zq61.mp hbs;obtain ⟨b,z1,z2⟩:=Paired.getR hL hi;exact (cO up (hG b (zq9 z1)).len z2).1) (i:=0) Jy).1
  have tab:TabV K H15 tb (jd (FZ.aW ss) bbs):=zn ts htb (FL.Paired.imp hts fun x _ b _ z=>by obtain ⟨qb,ab,eb,vs,e,v1,v2,v3,v4,v5⟩:=z;exact zAM qb ab eb vs e (SqT.of v1) v2 v3 (SqT.of v4))
  have tg:E4 (ins++oth) wd (jd (FZ.aW ss) bbs):=⟨fun b hb=>⟨(g1' b hb).gd,(g1' b hb).nm,by have:=(g1' b hb).len;omega⟩,fun b hb=>(g1' b hb).tg,g2'⟩
  have hTC:=Gz (ks:=ks) w1 hG hL up;refine later ?_;simp_arith! [];refine ⟨fun σ H'=>Same H15 H'/\∃o18,σ=[some (.ref a),some (.ref pc),some (.int c0),some (.int wd),some (.ref pi),some (.ref po),some (.ref pr),some (.ref pp),some (.ref pw),some (.ref px),o10,o11,some (.int m),some (.ref td),some (.bl ov),some (.int k),some (.ref ut),some (.ref tb),o18],⟨⟨_,SqL.of htb⟩,?_⟩,?_⟩
  ·refine dk (xs:=ts) (fun i σ H'=>Same H15 H'/\∃o18,σ=[some (.ref a),some (.ref pc),some (.int c0),some (.int wd),some (.ref pi),some (.ref po),some (.ref pr),some (.ref pp),some (.ref pw),some (.ref px),o10,o11,some (.int m),some (.ref td),some (.bl ov),some (.int k),some (.ref ut),some (.ref tb),o18]) ⟨Same.refl _,_,rfl⟩ (fun i σ H' _ h=>SqL.of (h.1 _ _ htb)) ?_ ?_
   ·rintro j x σ H16 hx ⟨s16,o18,rfl⟩;obtain ⟨b,hb,hbv⟩:=Paired.get hts hx;obtain ⟨qb,ab,eb,vs,rfl,v1,v2,v3,v4,v5,v6⟩:=hbv.same s16;have hbm:=zq9 hb;have l8:=(g1' b hbm).len;simp_arith! [];refine zAA _ _ (SqT.of v1) rfl ?_;rw [BW];refine zAH vs b.ds us (zBF (SqL.of v2) v3 Jy (SqT.of (s16 _ _ (s15 _ _ (s14 _ _ eu)))) h3 (g4' b hbm) (wC (g1' b hbm).gd nt) fun H17 s17=>zn _ rfl ?_);rw [if_neg Jx];exact ⟨s16.trans s17,_,rfl⟩
   ·rintro σ H16 ⟨s16,o18,rfl⟩;exact ⟨s16,_,rfl⟩
  rintro σ H16 ⟨s16,o18,rfl⟩;have s1116:=(s1114.trans s15).trans s16;have s716:=s11.trans s1116;refine later ?_;simp_arith! [];refine ⟨.inl ⟨Jx,Jx⟩,?_⟩;rw [yV];have f2:=wt (t:=[]) (n:=m.toNat) (m:=(4 * m+4).toNat) hTC hm0 hBK Jy;have f3:=fun h=>wq (t:=[]) (n:=m.toNat) (m:=(4 * m+4).toNat) hTC hm0 hBK h Jy;obtain ⟨y1,y2,y3⟩:=qt tg w1 (L:=8) (fun b hb=>(g1' b hb).len) (n:=(4 * m+4).toNat) (i:=0) (s:=(aV ins ws (ins++oth),[])) hBK.g;refine ⟨wd,ins,oth,ss,a',b',r',ys,g,ws,_,hP.same s716,⟨.inl (s1116 _ _ hw11),hin⟩,w1,Jy,Jy,tab.same s16,tg,Jy,fun p6 td6 bx6 H17 s17 f8 f9 x4 x5 x6=>?_⟩;dsimp only;rw [yL];refine zBH td6 bx6 _ _ _ _ _ (SqT.of x4) x5 ((s1116.trans s17) _ _ ht11) x6 ((s1116.trans s17) _ _ hb11) f2 (fun ho=>?_) sgk.bx.isI (by dsimp only at y3;rw [List.length_nil] at y3;omega) fun H18 s18=>zn _ rfl ?_
  ·rw [hov] at ho;have z:=f3 (zq42.mp (of_decide_eq_true ho));rw [z];exact zAB rfl rfl rfl
  ·rw [if_neg Jx];exact ⟨((s14.trans s15).trans s16).trans (s17.trans s18),zAH _ _ _ rfl⟩
 ·rintro σ H14 ⟨s14,o16,o17,o18,rfl⟩;unfold gT;rwa [];exact q _
theorem vA(T:Txt K mg t):∀(s:Shared)(u:Value),BindsTo s t.e_157 ⟨[u],[]⟩ [("_law_script",u)]:=by obtain ⟨oc,od,kV,doc,pm,an,cdv,ct,osl,e,_,_⟩:=T.d_157.F.ex;intro s u;rw [e];exact .of_eq rfl
end
theorem Jj{l:W.OpenLaw}{q:Program}{loose:List Str}{XP:(Str->Option Value)->Heap->Prop}{YP:World->Heap->Prop}{d:DefRec}{K:Params->W.Frag}(hn:l.most=some 63)(hdf:d.params.defaults=[])(hd:d.name="law")
  (hY:∀(w:World)(h:Heap),YP w h->(K w.params).In h)
  (F:∀(w:World)(mg:Str->Option Value)(h:Heap),(K w.params).In h->h.Ns mainGlobals mg->∃t,Txt (K w.params) mg t/\t.pr=w.params) :
  W.WalkO q loose XP YP l.row.toRowW d [] (fun f vs=>PySem.call f vs):=by
 refine L2.zO (n:=63) (k:=100) (x:="_law_script") (CX:=fun _=>CX0) (sp:=fun w=>sp_law (K w.params)) hn Jx hdf ⟨rfl,Jx,Jx⟩ hY (fun w mg fa h KX G hmg=>?_) (fun _ _ a ns hl hb _ hS=>zAT a ns rfl hS hl hb fun _=>rfl) fun _ _ _ _ _ z=>z;obtain ⟨t,T,hw⟩:=F w mg h KX G;rw [hd] at hmg;have e0:=hmg.symm.trans T.d_157.M
 cases e0
 exact zn t.e_157 (vA T) fun base _ _=>(EA T hw).mono Jx
end K71
set_option maxHeartbeats 4000000
local macro_rules | `(tactic| simp_arith [$ts,*])=>`(tactic| ((try dsimp only); k_is))
local macro_rules | `(∅)=>`(by simp_arith [])
namespace PySem.W.Fast
def tw17496076122860778712:=0
def tw13425443210798680101:=0
def tw17124408399094214060:=0
def tw12138907028703111904:=0
def tw7835766071626262833:=0
def tw3301100070818342457:=0
def tw6589890423091073389:=0
def tw6901599173525688616:=0
def tw6147940765062640927:=0
def tw824170821941861610:=0
def tw9639086711539130896:=0
def tw7099240947528972789:=0
def tw1693798216202395689:=0
def tw9464613144698818098:=0
def tw4442790004540259774:=0
def tw15123851103192625609:=0
def tw14443692843435704478:=0
def tw2849364240339977102:=0
def tw15098936941895805189:=0
def tw5187837843144362455:=0
def tw15764833986580630794:=0
def tw8628854067575505594:=0
def tw5270104765983128037:=0
def tw12726146554163305952:=0
def tw18245892609555682549:=0
def tw7229731992319513198:=0
def tw2369706422188900467:=0
def tw967548737432775041:=0
def tw7951980813566528178:=0
def tw1645342961514706985:=0
def tw12032294960307187938:=0
def tw15020938307913990416:=0
def tw1761892340278101265:=0
def tw17604525317836933528:=0
def tw2205615135036969137:=0
def tw7343642721271594933:=0
def tw14713382517559771425:=0
def tw18047098615705978020:=0
def tw17853599920639044337:=0
def tw14418790459753479650:=0
def tw17540296627435701790:=0
def tw17800461886683078943:=0
def tw14196706183388244447:=0
def tw18019137609178377662:=0
def tw5750051808215677060:=0
def tw2824426139572702312:=0
def tw5174668997223125783:=0
def tw13931763356047177343:=0
def tw1351891573542477224:=0
def tw591682420254825065:=0
def tw11243488389962859039:=0
def tw1929807249947022703:=0
def tw7577154399777842699:=0
def tw7792364853647756934:=0
def tw6463182524149645956:=0
def tw2221139529779269006:=0
def tw11084417218482154389:=0
def tw9210146418978632583:=0
def tw9793963479516965576:=0
def tw3323142025374409648:=0
def tw13690189835135591856:=0
def tw6852085814025293140:=0
def tw10946400660238175815:=0
def tw17111137558886896737:=0
def tw10239274498319261685:=0
def tw14889138734225572161:=0
def tw15406160743633568341:=0
def tw14559230442506608213:=0
def tw4830724897640017377:=0
def tw13900132069106952590:=0
def tw6499250851012592653:=0
def tw12279771660451992848:=0
def tw8105700639528490105:=0
def tw10443781518963638948:=0
def tw232063439942808321:=0
def tw8901434763031258806:=0
def tw16901790653236559237:=0
def tw18056581705257849814:=0
def tw13538877392824202883:=0
def tw16891792989834187376:=0
def tw17754756870975085691:=0
def tw5779050084009253025:=0
def tw12652163187123100193:=0
def tw9664531036904009061:=0
def tw12050387229610867726:=0
def tw2461235614133220378:=0
def tw13680636532017080851:=0
def tw18151926367406010302:=0
def tw576576889248011324:=0
def tw2978620242936164341:=0
def tw4420250220147277843:=0
def tw13714543307631673142:=0
def tw11152675968606342327:=0
def tw269611146249033188:=0
def tw2953516663548817192:=0
def tw317317668152764708:=0
def tw14016708516145674314:=0
def tw4501822725769641164:=0
def tw3896817532871613672:=0
def tw9281326217978355370:=0
def tw15048498794675059287:=0
def tw13571923421658736217:=0
def tw6722780404185844877:=0
def tw17470732118083595173:=0
def tw9830727938587436247:=0
def tw16345285712273012055:=0
def tw3661203444648084237:=0
def tw9852465328531540453:=0
def tw679652408348820910:=0
def tw9296589224034370563:=0
def tw13047246191093652854:=0
def tw8523765000399698596:=0
def tw8442555143224156939:=0
def tw1051023000006301865:=0
def tw12919710268871946082:=0
def tw15089610747614986698:=0
def tw10178750984462304952:=0
def tw17263701747684898569:=0
def tw11487207419955579002:=0
def tw95768015488784450:=0
def tw7123632963648523748:=0
def tw4707753227578324477:=0
def tw3596754313737329515:=0
def tw12576764659431005539:=0
def tw7495649694880510653:=0
def tw17533829440201943129:=0
def tw1984366785047484725:=0
def tw10567602696024987144:=0
def tw18114878769638048629:=0
def tw11265068046000692297:=0
def tw6369369299742865539:=0
def tw12151730467093842128:=0
def tw15514886441945325933:=0
def tw16645858982663306485:=0
def tw865740154261855886:=0
def tw4418460327766642089:=0
def tw3034387082274446988:=0
def tw9574718507439624596:=0
def tw12998419073725854574:=0
def tw7290033023652066301:=0
def tw2097883970782979798:=0
def tw18288664205148804676:=0
def tw6948768158912749409:=0
def tw8133964047234627875:=0
def tw8752166080055496082:=0
def tw8196245112522251463:=0
def tw10203502659958553492:=0
def tw17468711815810429889:=0
def tw16161998814379081404:=0
def tw9317980562969561750:=0
def tw1130635874219987613:=0
def tw4962854525013813108:=0
def tw11969028751004404164:=0
def tw10874146054142890947:=0
def tw1291550255735049381:=0
def tw15069248686191582892:=0
def tw2413832213257001656:=0
def tw14374159976751878974:=0
def tw18233137843202749839:=0
def tw13496203740713967543:=0
def tw17089192241332149895:=0
def tw7926275783975581195:=0
def tw1341372424147449702:=0
def tw10172981782116651523:=0
def tw5147450607974767486:=0
def tw8924163871105320848:=0
def tw11309269547274633559:=0
def tw1030979677318639705:=0
def tw7653663339884301637:=0
def tw17617147515591905244:=0
def tw11883421041420518322:=0
def tw10772385995538459518:=0
def tw8581661270915918032:=0
def tw6961997492535005398:=0
def tw5407674984707078585:=0
def tw313320098942909232:=0
def tw3002418359615770073:=0
def tw16167924168157675715:=0
def tw5730094207719889137:=0
def tw8581315853957415497:=0
def tw3174472619319055474:=0
def tw942797992952151497:=0
def tw15525853935722513474:=0
def tw5084178289986633365:=0
def tw425538113131443538:=0
def tw332092864689095166:=0
def tw3043971141374451341:=0
def tw6112987681422852036:=0
def tw9681030424317672382:=0
def tw11526512087473672818:=0
def tw7953820752795092766:=0
def tw11147262850143242222:=0
def tw7019635250123594981:=0
def tw15391920009366003751:=0
def tw7355620226105783203:=0
def tw1002840046241984580:=0
def tw7638754224034906847:=0
def tw15914899816142486829:=0
def tw11974477338931021476:=0
def tw16290321386029125865:=0
def tw15332640189284267847:=0
def tw4680162252764712283:=0
def tw7048102378433176342:=0
def tw16357809077839321338:=0
def tw10829939456542591302:=0
def tw5449378184282369905:=0
def tw14800069874436638535:=0
def tw6152663363899926313:=0
def tw4864479865762477203:=0
def tw818191070112408044:=0
def tw7075630492587948983:=0
def tw17262485472183197403:=0
def tw13859566893670563317:=0
def tw10394227637492159599:=0
def tw5743675460174176443:=0
def tw2714480696223657793:=0
def tw12313597416577563647:=0
def tw11296969618811141122:=0
def tw4559517189804547299:=0
def tw12707033320226481833:=0
def tw17565324268740913062:=0
def tw15898833907076589195:=0
def tw16494867709705593394:=0
def tw4072359155082988984:=0
def tw13425871978844024195:=0
def tw10073295745371933170:=0
def tw5609476257235085741:=0
def tw5572052724258698190:=0
def tw894276892015618545:=0
def tw6366636528464829984:=0
def tw3082525031945334554:=0
def tw1696387111660534634:=0
def tw8508876889036093990:=0
def tw4953059544220026011:=0
def tw8494313713606038412:=0
def tw15118973945275496979:=0
def tw10042910517090684040:=0
def tw5329675900954027136:=0
def tw7705261824293686215:=0
def tw648776469669200880:=0
def tw7845195720422702371:=0
def tw10361763637678022194:=0
def tw16433366922581862780:=0
def tw12715172656723970147:=0
def tw2148005433340438148:=0
def tw13861973619585462672:=0
def tw14589986967448801759:=0
def tw10096004282864359559:=0
def tw3124081126967106954:=0
def tw12547439975094536987:=0
def tw15401678605646996333:=0
def tw5782559752038524785:=0
def tw2302470707595704709:=0
def tw16293418375403521704:=0
def tw12479506445318196637:=0
def tw17409441344358902737:=0
def tw11100076899537179257:=0
def tw17762237236452363946:=0
def tw16462421971188089253:=0
def tw5707299978755213368:=0
def tw671741717080105977:=0
def tw9872920960372852710:=0
def tw15736532556963511357:=0
def tw17718269195014602355:=0
def tw9122390288441228918:=0
def tw12759990322421322823:=0
def tw2903880417098743650:=0
def tw4935651339712849792:=0
def tw6818446907847471248:=0
def tw4923444847139807943:=0
def tw7803826963764745536:=0
def tw14273117338779542672:=0
def tw17614755133145356286:=0
def tw2518959165603221397:=0
def tw13870501724035749016:=0
def tw6400702166853621984:=0
def tw2778510153552948904:=0
def tw12491800566705882557:=0
def tw1221822982992178181:=0
def tw11317299434852967806:=0
def tw10483147431484719640:=0
def tw14519061277183151923:=0
def tw11727577961146180513:=0
def tw401549000706692833:=0
def tw3867919997500234960:=0
def tw3853148487650150136:=0
def tw12722850571125185008:=0
def tw12551641766769033331:=0
def tw1660930442946998738:=0
def tw8407431328432191559:=0
def tw3968182583465104803:=0
def tw18401165519522811429:=0
def tw6564122153293302888:=0
def tw16282339249298536239:=0
def tw8230586704456231384:=0
def tw18242288156466557038:=0
def tw1680946203011735193:=0
def tw15867080115763030203:=0
def tw15001852495970184852:=0
def tw8021970359166443501:=0
def tw9278358807047741466:=0
def tw16291375835100291246:=0
def tw14878195833039532388:=0
def tw7401261189310357483:=0
def tw4504065656237772256:=0
def tw1856704763383686757:=0
def tw16146203356639222091:=0
def tw15174026353559505555:=0
def tw12259856871659508963:=0
def tw5745059469535785917:=0
def tw3599290218216611515:=0
def tw14707508668832702179:=0
def tw13532336658267211238:=0
def tw12403851176156653603:=0
def tw7188027522183282263:=0
def tw6738106692107129264:=0
def tw2353894767427112319:=0
def tw13438450232934426336:=0
def tw10987204424605450620:=0
def tw965186873013674321:=0
def tw9508774419882874269:=0
def tw9380512491530272298:=0
def tw936567624292846607:=0
def tw9181415070535231339:=0
def tw8959809655249512101:=0
def tw8900455794702783237:=0
def tw8790002442048473853:=0
def tw8433973014886884444:=0
def tw8312138751844949979:=0
def tw8291592311432911889:=0
def tw818411931405045438:=0
def tw8075594851653909183:=0
def tw794016505510845928:=0
def tw7840655301215119072:=0
def tw7665093392291283957:=0
def tw7523977692704738283:=0
def tw7476353581284680515:=0
def tw7473398759656356659:=0
def tw7053158233277901644:=0
def tw6990943647626154632:=0
def tw6830754445706305127:=0
def tw6433110443709254109:=0
def tw6328327114517467382:=0
def tw6282872015322993613:=0
def tw59766396711485742:=0
def tw5733912670732443333:=0
def tw56237580815483245:=0
def tw5546962206043919592:=0
def tw537293034192090878:=0
def tw5141290805442582114:=0
def tw514125051305684991:=0
def tw5132836590228474713:=0
def tw4670608140243381445:=0
def tw4550964354153673949:=0
def tw41401990383369712:=0
def tw403019535584020560:=0
def tw402590901732353653:=0
def tw3889855948510415322:=0
def tw3366238011712227521:=0
def tw3302608343383397198:=0
def tw3110919576988619163:=0
def tw3105820184028635589:=0
def tw2946305253283507053:=0
def tw2721010189825986219:=0
def tw2666660096583541820:=0
def tw258897805517232114:=0
def tw187057000912803597:=0
def tw1855508846172774983:=0
def tw18323710580853878400:=0
def tw18276227285054265362:=0
def tw18108190253445631704:=0
def tw18020902633353099539:=0
def tw18018919721606368959:=0
def tw17970214689415820477:=0
def tw17814439414937142897:=0
def tw17730563239915927320:=0
def tw17606146515923007553:=0
def tw17104825874724011851:=0
def tw17015664150543187494:=0
def tw16886670255875911696:=0
def tw16872597321270194785:=0
def tw1675080932142050541:=0
def tw16260488710407874770:=0
def tw16132335498693888784:=0
def tw16030956337123480326:=0
def tw15868458577141992425:=0
def tw15668339162702331943:=0
def tw15665054391711781217:=0
def tw15630878978639410065:=0
def tw15566631407588242751:=0
def tw15528058623392966796:=0
def tw15152117791994657686:=0
def tw15147166966756713636:=0
def tw14989144094787635574:=0
def tw14970242863113073858:=0
def tw14835020182567222344:=0
def tw14826982733521431121:=0
def tw14747525710590762684:=0
def tw14723962823260891367:=0
def tw14689854898643139833:=0
def tw14512794985068929265:=0
def tw14467327600076185305:=0
def tw14457091098865087701:=0
def tw14195620303216536223:=0
def tw1392331976248704640:=0
def tw13921668401215950956:=0
def tw13777782326725959070:=0
def tw13672486112109828912:=0
def tw13604965439817262578:=0
def tw1352687898828047822:=0
def tw13506599203658473360:=0
def tw13500786065052504681:=0
def tw13481299707758508681:=0
def tw13451831660281702247:=0
def tw13358564433266317716:=0
def tw13275969082439108191:=0
def tw12928329204636896507:=0
def tw12907852632463635134:=0
def tw12757066851543864490:=0
def tw12734031084806063705:=0
def tw12623251186668728787:=0
def tw12424140932466725372:=0
def tw12161431351579124495:=0
def tw1186002432943565114:=0
def tw11705219265938712021:=0
def tw11704465521272173768:=0
def tw1159967071504946238:=0
def tw11407086581839584120:=0
def tw11377357167169045103:=0
def tw11224765538933937029:=0
def tw11157334176221739571:=0
def tw11130659970858316025:=0
def tw11019943768819701975:=0
def tw10687057536667299157:=0
def tw10462025843013694807:=0
def tw10424829345818966882:=0
def tw10203939877508420456:=0
end PySem.W.Fast
open PySem PySem.W PyProof.Rows
set_option maxRecDepth 100000 in
set_option maxHeartbeats 0 in
theorem PySem.Challenge.cw_deedloom_k71_whole_units_make_no_differe_holds : PySem.Challenge.rw_deedloom_k71_whole_units_make_no_differe.Holds := by
 w_on; o_law; k_head; (case hw=>w_witness2)
 k_fill
 refine K71.Jj (l := PySem.Challenge.rw_deedloom_k71_whole_units_make_no_differe) rfl rfl rfl (fun w h Y=>PySem.W.kIn_of Y) ?F
 case F =>
  intro w mg h KX G
  exact ⟨⟨w.params,_,_,_,_,_,_,_,_,_,_,_,_,_,_,_,_,_,_,_,_,_,_,_,_,_,_,_,_,_,_,_,_,_,_,_,_,_,_,_,_,_,_,_,_,_,_,_,_,_,_,_,_,_,_,_,_,_,_,_,_,_,_,_,_,_,_,_,_,_,_,_,_,_,_,_,_,_,_,_,_,_,_,_,_,_,_,_,_,_,_,_,_,_,_,_,_,_,_,_,_,_,_,_,_,_,_,_,_,_,_,_,_,_,_,_,_,_,_,_,_,_,_,_⟩,⟨PySem.W.mg_of KX G ∅,K71.xI ∅ (by first | rfl | kernel_rfl | decide) (by first | rfl | kernel_rfl | decide),PySem.W.mg_of KX G ∅,L2.xj KX G ∅ ∅ ∅ ∅ ∅ ∅ ∅,by show PySem.W.findIn _ _ _ = some none; simp_arith [],by show PySem.W.findIn _ _ _ = some none; simp_arith [],by show PySem.W.findIn _ _ _ = some none; simp_arith [],by show PySem.W.findIn _ _ _ = some none; simp_arith [],L2.xj KX G ∅ ∅ ∅ ∅ ∅ ∅ ∅,by show PySem.W.findIn _ _ _ = some none; simp_arith [],by show PySem.W.findIn _ _ _ = some none; simp_arith [],by show PySem.W.findIn _ _ _ = some none; simp_arith [],by show PySem.W.findIn _ _ _ = some none; simp_arith [],by show PySem.W.findIn _ _ _ = some none; simp_arith [],L2.xj KX G ∅ ∅ ∅ ∅ ∅ ∅ ∅,by show PySem.W.findIn _ _ _ = some none; simp_arith [],L2.xj KX G ∅ ∅ ∅ ∅ ∅ ∅ ∅,by show PySem.W.findIn _ _ _ = some none; simp_arith [],by show PySem.W.findIn _ _ _ = some none; simp_arith [],by show PySem.W.findIn _ _ _ = some none; simp_arith [],by show PySem.W.findIn _ _ _ = some none; simp_arith [],L2.xj KX G ∅ ∅ ∅ ∅ ∅ ∅ ∅,by show PySem.W.findIn _ _ _ = some none; simp_arith [],by show PySem.W.findIn _ _ _ = some none; simp_arith [],by show PySem.W.findIn _ _ _ = some none; simp_arith [],L2.cA KX G ∅ ∅ ∅ ∅ (L2.bn1 fun _ _ _ _ _ _ _=>rfl),L2.eo ∅ ∅ ∅ ∅ ∅ (L2.bn1 fun _ _ _ _ _ _ _=>rfl),L2.eo ∅ ∅ ∅ ∅ ∅ (L2.bn1 fun _ _ _ _ _ _ _=>rfl),L2.eo ∅ ∅ ∅ ∅ ∅ (L2.bn2 fun _ _ _ _ _ _ _ _=>rfl),L2.eo ∅ ∅ ∅ ∅ ∅ (L2.bn2 fun _ _ _ _ _ _ _ _=>rfl),L2.eo ∅ ∅ ∅ ∅ ∅ (L2.bn3 fun _ _ _ _ _ _ _ _ _=>rfl),L2.eo ∅ ∅ ∅ ∅ ∅ (L2.bn3 fun _ _ _ _ _ _ _ _ _=>rfl),L2.eo ∅ ∅ ∅ ∅ ∅ (L2.bn3 fun _ _ _ _ _ _ _ _ _=>rfl),L2.eo ∅ ∅ ∅ ∅ ∅ (L2.bn3 fun _ _ _ _ _ _ _ _ _=>rfl),L2.eo ∅ ∅ ∅ ∅ ∅ (L2.bn5 fun _ _ _ _ _ _ _ _ _ _ _=>rfl),L2.cA KX G ∅ ∅ ∅ ∅ (L2.bn1 fun _ _ _ _ _ _ _=>rfl),L2.cA KX G ∅ ∅ ∅ ∅ (L2.bn1 fun _ _ _ _ _ _ _=>rfl),L2.cA KX G ∅ ∅ ∅ ∅ (L2.bn1 fun _ _ _ _ _ _ _=>rfl),L2.cA KX G ∅ ∅ ∅ ∅ (L2.bn4 fun _ _ _ _ _ _ _ _ _ _=>rfl),L2.cA KX G ∅ ∅ ∅ ∅ (L2.bn1 fun _ _ _ _ _ _ _=>rfl),L2.cA KX G ∅ ∅ ∅ ∅ (L2.bn1 fun _ _ _ _ _ _ _=>rfl),L2.cA KX G ∅ ∅ ∅ ∅ (L2.bn1 fun _ _ _ _ _ _ _=>rfl),L2.cA KX G ∅ ∅ ∅ ∅ (L2.bn1 fun _ _ _ _ _ _ _=>rfl),L2.cA KX G ∅ ∅ ∅ ∅ (L2.bn2 fun _ _ _ _ _ _ _ _=>rfl),L2.cA KX G ∅ ∅ ∅ ∅ (L2.bn3 fun _ _ _ _ _ _ _ _ _=>rfl),L2.cA KX G ∅ ∅ ∅ ∅ (L2.bn2 fun _ _ _ _ _ _ _ _=>rfl),L2.cA KX G ∅ ∅ ∅ ∅ (L2.bn2 fun _ _ _ _ _ _ _ _=>rfl),L2.cA KX G ∅ ∅ ∅ ∅ (L2.bn3 fun _ _ _ _ _ _ _ _ _=>rfl),L2.cA KX G ∅ ∅ ∅ ∅ (L2.bn2 fun _ _ _ _ _ _ _ _=>rfl),L2.eo ∅ ∅ ∅ ∅ ∅ (L2.bn3 fun _ _ _ _ _ _ _ _ _=>rfl),L2.eo ∅ ∅ ∅ ∅ ∅ (L2.bn2 fun _ _ _ _ _ _ _ _=>rfl),L2.eo ∅ ∅ ∅ ∅ ∅ (L2.bn4 fun _ _ _ _ _ _ _ _ _ _=>rfl),L2.eo ∅ ∅ ∅ ∅ ∅ (L2.bn4 fun _ _ _ _ _ _ _ _ _ _=>rfl),L2.eo ∅ ∅ ∅ ∅ ∅ (L2.bn4 fun _ _ _ _ _ _ _ _ _ _=>rfl),L2.cA KX G ∅ ∅ ∅ ∅ (L2.bn2 fun _ _ _ _ _ _ _ _=>rfl),L2.eo ∅ ∅ ∅ ∅ ∅ (L2.bn3 fun _ _ _ _ _ _ _ _ _=>rfl),L2.eo ∅ ∅ ∅ ∅ ∅ (L2.bn1 fun _ _ _ _ _ _ _=>rfl),L2.eo ∅ ∅ ∅ ∅ ∅ (L2.bn1 fun _ _ _ _ _ _ _=>rfl),L2.eo ∅ ∅ ∅ ∅ ∅ (L2.bn2 fun _ _ _ _ _ _ _ _=>rfl),L2.eo ∅ ∅ ∅ ∅ ∅ (L2.bn2 fun _ _ _ _ _ _ _ _=>rfl),L2.eo ∅ ∅ ∅ ∅ ∅ (L2.bn2 fun _ _ _ _ _ _ _ _=>rfl),L2.cA KX G ∅ ∅ ∅ ∅ (L2.bn3 fun _ _ _ _ _ _ _ _ _=>rfl),L2.cA KX G ∅ ∅ ∅ ∅ (L2.bn2 fun _ _ _ _ _ _ _ _=>rfl),L2.cA KX G ∅ ∅ ∅ ∅ (L2.bn2 fun _ _ _ _ _ _ _ _=>rfl),L2.cA KX G ∅ ∅ ∅ ∅ (L2.bn2 fun _ _ _ _ _ _ _ _=>rfl),L2.eo ∅ ∅ ∅ ∅ ∅ (L2.bn4 fun _ _ _ _ _ _ _ _ _ _=>rfl),L2.eo ∅ ∅ ∅ ∅ ∅ (L2.bn1 fun _ _ _ _ _ _ _=>rfl),L2.cA KX G ∅ ∅ ∅ ∅ (L2.bn4 fun _ _ _ _ _ _ _ _ _ _=>rfl),L2.cA KX G ∅ ∅ ∅ ∅ (L2.bn2 fun _ _ _ _ _ _ _ _=>rfl),L2.cA KX G ∅ ∅ ∅ ∅ (L2.bn1 fun _ _ _ _ _ _ _=>rfl),L2.cA KX G ∅ ∅ ∅ ∅ (L2.bn3 fun _ _ _ _ _ _ _ _ _=>rfl),L2.cA KX G ∅ ∅ ∅ ∅ (L2.bn3 fun _ _ _ _ _ _ _ _ _=>rfl),L2.cA KX G ∅ ∅ ∅ ∅ (L2.bn2 fun _ _ _ _ _ _ _ _=>rfl),L2.cA KX G ∅ ∅ ∅ ∅ (L2.bn1 fun _ _ _ _ _ _ _=>rfl),L2.cA KX G ∅ ∅ ∅ ∅ (L2.bn4 fun _ _ _ _ _ _ _ _ _ _=>rfl),L2.cA KX G ∅ ∅ ∅ ∅ (L2.bn2 fun _ _ _ _ _ _ _ _=>rfl),L2.cA KX G ∅ ∅ ∅ ∅ (L2.bn4 fun _ _ _ _ _ _ _ _ _ _=>rfl),L2.cA KX G ∅ ∅ ∅ ∅ (L2.bn4 fun _ _ _ _ _ _ _ _ _ _=>rfl),L2.cA KX G ∅ ∅ ∅ ∅ (L2.bn4 fun _ _ _ _ _ _ _ _ _ _=>rfl),L2.cA KX G ∅ ∅ ∅ ∅ (L2.bn1 fun _ _ _ _ _ _ _=>rfl),L2.cA KX G ∅ ∅ ∅ ∅ (L2.bn2 fun _ _ _ _ _ _ _ _=>rfl),L2.cA KX G ∅ ∅ ∅ ∅ (L2.bn4 fun _ _ _ _ _ _ _ _ _ _=>rfl),L2.cA KX G ∅ ∅ ∅ ∅ (L2.bn1 fun _ _ _ _ _ _ _=>rfl),PySem.W.mg_none_of KX G ∅,PySem.W.mg_none_of KX G ∅,PySem.W.mg_none_of KX G ∅,PySem.W.mg_none_of KX G ∅,PySem.W.mg_none_of KX G ∅,PySem.W.mg_none_of KX G ∅,PySem.W.mg_none_of KX G ∅,PySem.W.mg_none_of KX G ∅,PySem.W.mg_none_of KX G ∅,PySem.W.mg_none_of KX G ∅,PySem.W.mg_none_of KX G ∅,PySem.W.mg_none_of KX G ∅,PySem.W.mg_none_of KX G ∅,PySem.W.mg_none_of KX G ∅,PySem.W.mg_none_of KX G ∅,PySem.W.mg_none_of KX G ∅⟩,rfl⟩
