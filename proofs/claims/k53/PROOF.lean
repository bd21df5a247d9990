import PyProof.Rows.All
import Wide.All
import OpenK.AllK
import PySem.Challenge.RW_deedloom_k53_tables_for_all_words
set_option genSizeOf false
set_option compiler.extract_closed false
set_option Elab.async false
set_option linter.all false
set_option maxRecDepth 100000
local macro_rules|`($d:definition)=>`(noncomputable $d:definition)
local macro_rules|`(tactic|omega)=>`(tactic|first|assumption|lia|omega +splitNatSub)
noncomputable section
set_option linter.all false
namespace Zq
open PySem
def zq0:=@Nat.le_refl
def zq1:=@List.length_map
def zq2:=@List.mem_singleton
def zq3:=@List.length_append
def zq4:=@List.mem_of_getElem?
def zq5:=@List.mem_cons
def zq6:=@Bool.false_ne_true
def zq7:=@Heap.lt_size
def zq8:=@List.getElem?_eq_getElem
def zq9:=@List.mem_cons_of_mem
def zq10:=@List.getElem?_eq_some_iff
def ce:=@Nat.zero_le
def cf:=@List.getElem?_map
def cy:=@Heap.get?_push_of_some
def cD:=@Nat.ne_of_lt
def zq15:=@List.mem_append
def cG:=@List.length_singleton
def cR:=@Nat.le_trans
def cS:=@List.map_append
def dh:=@List.map_cons
def dk:=@List.length_cons
def zq21:=@List.mem_map
def dy:=@Heap.get?_push_size
def dE:=@List.length_take
def dF:=@Bool.and_eq_true
def dS:=@Nat.lt_of_lt_of_le
def eh:=@Int.toNat_natCast
def zq27:=@Option.map_eq_some_iff
def eL:=@List.mem_cons_self
def eM:=@List.mem_append_right
def eN:=@List.take_succ_eq_append_getElem
def eO:=@List.take_length
def fL:=@List.size_toArray
def fM:=@List.map_map
def fN:=@List.getD_eq_getElem?_getD
def gi:=@Int.emod_nonneg
def zq36:=@List.mem_range
def zq37:=@List.all_eq_true
def gL:=@List.length_range
def zq39:=@List.mem_filter
def iL:=@List.append_nil
def zq41:=@List.nodup_cons
def j9:=@List.getElem?_append_right
def jr:=@List.getElem?_append_left
def js:=@Int.emod_lt_of_pos
def kN:=@List.length_dropLast
def kO:=@Bool.or_eq_true
def kP:=@List.take_of_length_le
def l8:=@List.mem_append_left
def lh:=@Nat.ne_of_gt
def lj:=@Heap.size_push
def lu:=@List.getElem_mem
def lz:=@List.append_assoc
def lA:=@Nat.le_add_right
def nJ:=@Nat.lt_irrefl
def nK:=@Nat.le_of_lt
def nL:=@Nat.sub_self
def qK:=@Nat.le_succ
def qL:=@List.length_set
def qM:=@List.any_cons
def qN:=@List.cons_append
def qO:=@List.lookup_cons
def qP:=@Int.eq_ofNat_of_zero_le
def zq63:=@List.nodup_append
def zq64:=@List.length_eq_zero_iff
def qQ:=@List.prefix_refl
def zq66:=@List.mem_iff_getElem?
def sy:=@Bool.eq_iff_iff
def sC:=@List.all_cons
def zq69:=@List.any_eq_true
def sD:=@Int.pow_pos
def sE:=@Nat.min_eq_left
def sF:=@List.foldl_append
def sG:=@List.nil_append
def zq74:=@List.length_pos_iff
def sH:=@List.map_take
def wZ:=@List.getElem?_set_ne
def x2:=@Nat.le_of_eq
def x3:=@Nat.sub_zero
def zq79:=@List.pairwise_cons
def zq80:=@List.mem_flatten
def x4:=@List.length_mapIdx
def x5:=@List.concat_eq_append
def AF:=@List.getElem?_set_self
def AG:=@List.length_drop
def AH:=@Bool.true_and
def AI:=@List.length_reverse
def AJ:=@Int.one_mul
def AK:=@Nat.min_eq_right
def AL:=@List.not_mem_nil
def zq90:=@List.pairwise_lt_range
def AM:=@List.drop_length
def AN:=@List.nodup_range
def Cr:=@Nat.lt_succ_self
def Cs:=@Nat.min_le_right
def Ct:=@Heap.get?_update_self
def Cu:=@Option.map_some
def Cv:=@List.nodup_nil
def Cw:=@Nat.lt_of_le_of_lt
def Cy:=@List.filter_append
def uX:=@List.mem_of_find?_eq_some
def uY:=@List.getElem?_toArray
def uZ:=@List.drop_zero
def v0:=@List.drop_of_length_le
def v7:=@List.map_congr_left
def v8:=@List.dropLast_concat_getLast
def zq106:=@List.mem_flatMap
def v9:=@List.mem_of_mem_take
def vd:=@List.take_append_drop
def Ab:=@List.filterMap_cons
def Ac:=@Bool.false_and
def Ae:=@List.of_mem_zip
def Af:=@List.getElem?_replicate
def Ag:=@List.length_replicate
def Ah:=@Array.length_toList
def Ai:=@Heap.get?_update_other
def Aj:=@Array.getElem?_toList
def Ak:=@Int.zero_add
def Al:=@List.getElem?_cons_succ
def Am:=@List.length_filter_le
def An:=@List.getElem?_reverse
def Ao:=@List.reverse_cons
def Ap:=@List.range_succ
def Aq:=@Nat.pow_le_pow_right
def Ar:=@List.prefix_append
def As:=@List.foldl_cons
def Au:=@List.exists_mem_of_ne_nil
def Av:=@Nat.pow_succ
def Aw:=@List.reverse_reverse
def Ax:=@List.map_drop
def Ay:=@List.any_map
def Az:=@List.reverse_append
def AA:=@List.getElem?_range
def AB:=@List.getLastD_eq_getLast?
def AC:=@List.flatten_cons
def AD:=@Int.le_of_lt
def AE:=@List.getElem?_dropLast
def zq137:=@Option.isSome_iff_exists
def D3:=@Array.getElem?_eq_getElem
def D4:=@List.getElem?_eq_none
def zq140:=@Option.isNone_iff_eq_none
def D5:=@List.mem_or_eq_of_mem_set
def D6:=@List.perm_ext_iff_of_nodup
def D7:=@List.drop_eq_getElem_cons
def D8:=@List.eq_nil_or_concat
def D9:=@List.getLast?_eq_getElem?
def Da:=@List.dropLast_eq_take
def zq147:=@Option.map_eq_none_iff
section
variable{Q R S T U V W X Y Z:Type}
theorem zn{A B:Q->Prop}(a):A a->B a->∃a,A a/\B a:=(⟨a,·,·⟩)
theorem zAA{A B C:Q->R->Prop}(a b):A a b->B a b->C a b->∃a b,A a b/\B a b/\C a b:=(⟨a,b,·,·,·⟩)
theorem zAB{A B C:Prop}:A->B->C->A/\B/\C:=(⟨·,·,·⟩)
theorem zAC{A B C:Q->Prop}(a):A a->B a->C a->∃a,A a/\B a/\C a:=(⟨a,·,·,·⟩)
theorem zAD{A B:Q->R->Prop}(a b):A a b->B a b->∃a b,A a b/\B a b:=(⟨a,b,·,·⟩)
theorem zAE{A B C D:Q->R->Prop}(a b):A a b->B a b->C a b->D a b->∃a b,A a b/\B a b/\C a b/\D a b:=(⟨a,b,·,·,·,·⟩)
theorem zAF{A B C D:Q->Prop}(a):A a->B a->C a->D a->∃a,A a/\B a/\C a/\D a:=(⟨a,·,·,·,·⟩)
theorem zAG{A B C D:Prop}:A->B->C->D->A/\B/\C/\D:=(⟨·,·,·,·⟩)
theorem zAH{A B C D:Q->R->S->Prop}(a b c):A a b c->B a b c->C a b c->D a b c->∃a b c,A a b c/\B a b c/\C a b c/\D a b c:=(⟨a,b,c,·,·,·,·⟩)
theorem zAI{A B:Q->R->S->Prop}(a b c):A a b c->B a b c->∃a b c,A a b c/\B a b c:=(⟨a,b,c,·,·⟩)
theorem zAJ{A B C D E:Prop}:A->B->C->D->E->A/\B/\C/\D/\E:=(⟨·,·,·,·,·⟩)
theorem zAK{A:Q->R->S->Prop}(a b c):A a b c->∃a b c,A a b c:=(⟨a,b,c,·⟩)
theorem zAL{A B C D E:Q->R->S->Prop}(a b c):A a b c->B a b c->C a b c->D a b c->E a b c->∃a b c,A a b c/\B a b c/\C a b c/\D a b c/\E a b c:=(⟨a,b,c,·,·,·,·,·⟩)
theorem zAM{A:Q->R->Prop}(a b):A a b->∃a b,A a b:=(⟨a,b,·⟩)
theorem zAN{A B C D E:Q->R->S->T->Prop}(a b c d):A a b c d->B a b c d->C a b c d->D a b c d->E a b c d->∃a b c d,A a b c d/\B a b c d/\C a b c d/\D a b c d/\E a b c d:=(⟨a,b,c,d,·,·,·,·,·⟩)
theorem zAO{A B C:Q->R->S->Prop}(a b c):A a b c->B a b c->C a b c->∃a b c,A a b c/\B a b c/\C a b c:=(⟨a,b,c,·,·,·⟩)
theorem zAP{A B:Q->R->S->T->Prop}(a b c d):A a b c d->B a b c d->∃a b c d,A a b c d/\B a b c d:=(⟨a,b,c,d,·,·⟩)
theorem zAQ{A B C D E F:Prop}:A->B->C->D->E->F->A/\B/\C/\D/\E/\F:=(⟨·,·,·,·,·,·⟩)
theorem zAR{A B C D:Q->R->S->T->Prop}(a b c d):A a b c d->B a b c d->C a b c d->D a b c d->∃a b c d,A a b c d/\B a b c d/\C a b c d/\D a b c d:=(⟨a,b,c,d,·,·,·,·⟩)
theorem zAS{A B C D E:Q->R->Prop}(a b):A a b->B a b->C a b->D a b->E a b->∃a b,A a b/\B a b/\C a b/\D a b/\E a b:=(⟨a,b,·,·,·,·,·⟩)
theorem zAT{A B C D E F H:Prop}:A->B->C->D->E->F->H->A/\B/\C/\D/\E/\F/\H:=(⟨·,·,·,·,·,·,·⟩)
theorem zAU{A B C D E F H:Q->R->S->T->Prop}(a b c d):A a b c d->B a b c d->C a b c d->D a b c d->E a b c d->F a b c d->H a b c d->∃a b c d,A a b c d/\B a b c d/\C a b c d/\D a b c d/\E a b c d/\F a b c d/\H a b c d:=(⟨a,b,c,d,·,·,·,·,·,·,·⟩)
theorem zAV{A B C D E F:Q->R->S->T->U->Prop}(a b c d e):A a b c d e->B a b c d e->C a b c d e->D a b c d e->E a b c d e->F a b c d e->∃a b c d e,A a b c d e/\B a b c d e/\C a b c d e/\D a b c d e/\E a b c d e/\F a b c d e:=(⟨a,b,c,d,e,·,·,·,·,·,·⟩)
theorem zAW{A:Q->R->S->T->U->Prop}(a b c d e):A a b c d e->∃a b c d e,A a b c d e:=(⟨a,b,c,d,e,·⟩)
theorem zAX{A B C D E F:Q->R->S->T->Prop}(a b c d):A a b c d->B a b c d->C a b c d->D a b c d->E a b c d->F a b c d->∃a b c d,A a b c d/\B a b c d/\C a b c d/\D a b c d/\E a b c d/\F a b c d:=(⟨a,b,c,d,·,·,·,·,·,·⟩)
theorem zAY{A:Q->R->S->T->U->V->W->Prop}(a b c d e f g):A a b c d e f g->∃a b c d e f g,A a b c d e f g:=(⟨a,b,c,d,e,f,g,·⟩)
theorem zAZ{A:Q->R->S->T->U->V->Prop}(a b c d e f):A a b c d e f->∃a b c d e f,A a b c d e f:=(⟨a,b,c,d,e,f,·⟩)
theorem zBA{A B C D E:Q->Prop}(a):A a->B a->C a->D a->E a->∃a,A a/\B a/\C a/\D a/\E a:=(⟨a,·,·,·,·,·⟩)
theorem zBB{A B C D E F H I J:Prop}:A->B->C->D->E->F->H->I->J->A/\B/\C/\D/\E/\F/\H/\I/\J:=(⟨·,·,·,·,·,·,·,·,·⟩)
theorem zBC{A B C D E F H I:Prop}:A->B->C->D->E->F->H->I->A/\B/\C/\D/\E/\F/\H/\I:=(⟨·,·,·,·,·,·,·,·⟩)
theorem zBD{A:Q->R->S->T->U->V->W->X->Prop}(a b c d e f g i):A a b c d e f g i->∃a b c d e f g i,A a b c d e f g i:=(⟨a,b,c,d,e,f,g,i,·⟩)
theorem zBE{A B C D E F H I J K L M:Prop}:A->B->C->D->E->F->H->I->J->K->L->M->A/\B/\C/\D/\E/\F/\H/\I/\J/\K/\L/\M:=(⟨·,·,·,·,·,·,·,·,·,·,·,·⟩)
theorem zBF{A B C D E F:Q->R->Prop}(a b):A a b->B a b->C a b->D a b->E a b->F a b->∃a b,A a b/\B a b/\C a b/\D a b/\E a b/\F a b:=(⟨a,b,·,·,·,·,·,·⟩)
theorem zBG{A B C D E F:Q->R->S->Prop}(a b c):A a b c->B a b c->C a b c->D a b c->E a b c->F a b c->∃a b c,A a b c/\B a b c/\C a b c/\D a b c/\E a b c/\F a b c:=(⟨a,b,c,·,·,·,·,·,·⟩)
theorem zBH{A:Q->R->S->T->U->V->W->X->Y->Prop}(a b c d e f g i j):A a b c d e f g i j->∃a b c d e f g i j,A a b c d e f g i j:=(⟨a,b,c,d,e,f,g,i,j,·⟩)
theorem zBI{A B C D:Q->R->S->T->U->V->Prop}(a b c d e f):A a b c d e f->B a b c d e f->C a b c d e f->D a b c d e f->∃a b c d e f,A a b c d e f/\B a b c d e f/\C a b c d e f/\D a b c d e f:=(⟨a,b,c,d,e,f,·,·,·,·⟩)
theorem zBJ{A:Q->R->S->T->Prop}(a b c d):A a b c d->∃a b c d,A a b c d:=(⟨a,b,c,d,·⟩)
theorem zBK{A B C:Q->R->S->T->U->Prop}(a b c d e):A a b c d e->B a b c d e->C a b c d e->∃a b c d e,A a b c d e/\B a b c d e/\C a b c d e:=(⟨a,b,c,d,e,·,·,·⟩)
theorem zBL{A B C D E F H:Q->R->S->Prop}(a b c):A a b c->B a b c->C a b c->D a b c->E a b c->F a b c->H a b c->∃a b c,A a b c/\B a b c/\C a b c/\D a b c/\E a b c/\F a b c/\H a b c:=(⟨a,b,c,·,·,·,·,·,·,·⟩)
theorem zBM{A B C D E F H I J K:Q->R->S->T->U->V->W->Prop}(a b c d e f g):A a b c d e f g->B a b c d e f g->C a b c d e f g->D a b c d e f g->E a b c d e f g->F a b c d e f g->H a b c d e f g->I a b c d e f g->J a b c d e f g->K a b c d e f g->∃a b c d e f g,A a b c d e f g/\B a b c d e f g/\C a b c d e f g/\D a b c d e f g/\E a b c d e f g/\F a b c d e f g/\H a b c d e f g/\I a b c d e f g/\J a b c d e f g/\K a b c d e f g:=(⟨a,b,c,d,e,f,g,·,·,·,·,·,·,·,·,·,·⟩)
theorem zBN{A B:Q->R->S->T->U->Prop}(a b c d e):A a b c d e->B a b c d e->∃a b c d e,A a b c d e/\B a b c d e:=(⟨a,b,c,d,e,·,·⟩)
theorem zBO{A:Q->R->S->T->U->V->W->X->Y->Z->Prop}(a b c d e f g i j l):A a b c d e f g i j l->∃a b c d e f g i j l,A a b c d e f g i j l:=(⟨a,b,c,d,e,f,g,i,j,l,·⟩)
theorem zBP{A B C D E F H:Q->R->S->T->U->V->W->Prop}(a b c d e f g):A a b c d e f g->B a b c d e f g->C a b c d e f g->D a b c d e f g->E a b c d e f g->F a b c d e f g->H a b c d e f g->∃a b c d e f g,A a b c d e f g/\B a b c d e f g/\C a b c d e f g/\D a b c d e f g/\E a b c d e f g/\F a b c d e f g/\H a b c d e f g:=(⟨a,b,c,d,e,f,g,·,·,·,·,·,·,·⟩)
theorem zBQ{A B C D:Q->R->S->T->U->Prop}(a b c d e):A a b c d e->B a b c d e->C a b c d e->D a b c d e->∃a b c d e,A a b c d e/\B a b c d e/\C a b c d e/\D a b c d e:=(⟨a,b,c,d,e,·,·,·,·⟩)
theorem zBR{A B C D E F H I J K:Prop}:A->B->C->D->E->F->H->I->J->K->A/\B/\C/\D/\E/\F/\H/\I/\J/\K:=(⟨·,·,·,·,·,·,·,·,·,·⟩)
end
section
variable{Q R S T:Type}{g:Prop}
theorem eQ02{A B C:Prop}(k:A->B->C->g)(h:A/\B/\C):g:=let ⟨hA,hB,hC⟩:=h;k hA hB hC
theorem eQ03{A B C D:Prop}(k:A->B->C->D->g)(h:A/\B/\C/\D):g:=let ⟨hA,hB,hC,hD⟩:=h;k hA hB hC hD
theorem eQ04{A B C D E:Prop}(k:A->B->C->D->E->g)(h:A/\B/\C/\D/\E):g:=let ⟨hA,hB,hC,hD,hE⟩:=h;k hA hB hC hD hE
theorem eQ11{A B:Q->Prop}(k:∀a,A a->B a->g)(h:∃a,A a/\B a):g:=let ⟨a,hA,hB⟩:=h;k a hA hB
theorem eQ12{A B C:Q->Prop}(k:∀a,A a->B a->C a->g)(h:∃a,A a/\B a/\C a):g:=let ⟨a,hA,hB,hC⟩:=h;k a hA hB hC
theorem eQ13{A B C D:Q->Prop}(k:∀a,A a->B a->C a->D a->g)(h:∃a,A a/\B a/\C a/\D a):g:=let ⟨a,hA,hB,hC,hD⟩:=h;k a hA hB hC hD
theorem eQ14{A B C D E:Q->Prop}(k:∀a,A a->B a->C a->D a->E a->g)(h:∃a,A a/\B a/\C a/\D a/\E a):g:=let ⟨a,hA,hB,hC,hD,hE⟩:=h;k a hA hB hC hD hE
theorem eQ20{A:Q->R->Prop}(k:∀a b,A a b->g)(h:∃a b,A a b):g:=let ⟨a,b,hA⟩:=h;k a b hA
theorem eQ21{A B:Q->R->Prop}(k:∀a b,A a b->B a b->g)(h:∃a b,A a b/\B a b):g:=let ⟨a,b,hA,hB⟩:=h;k a b hA hB
theorem eQ22{A B C:Q->R->Prop}(k:∀a b,A a b->B a b->C a b->g)(h:∃a b,A a b/\B a b/\C a b):g:=let ⟨a,b,hA,hB,hC⟩:=h;k a b hA hB hC
theorem eQ23{A B C D:Q->R->Prop}(k:∀a b,A a b->B a b->C a b->D a b->g)(h:∃a b,A a b/\B a b/\C a b/\D a b):g:=let ⟨a,b,hA,hB,hC,hD⟩:=h;k a b hA hB hC hD
theorem eQ24{A B C D E:Q->R->Prop}(k:∀a b,A a b->B a b->C a b->D a b->E a b->g)(h:∃a b,A a b/\B a b/\C a b/\D a b/\E a b):g:=let ⟨a,b,hA,hB,hC,hD,hE⟩:=h;k a b hA hB hC hD hE
theorem eQ30{A:Q->R->S->Prop}(k:∀a b c,A a b c->g)(h:∃a b c,A a b c):g:=let ⟨a,b,c,hA⟩:=h;k a b c hA
theorem eQ31{A B:Q->R->S->Prop}(k:∀a b c,A a b c->B a b c->g)(h:∃a b c,A a b c/\B a b c):g:=let ⟨a,b,c,hA,hB⟩:=h;k a b c hA hB
theorem eQ32{A B C:Q->R->S->Prop}(k:∀a b c,A a b c->B a b c->C a b c->g)(h:∃a b c,A a b c/\B a b c/\C a b c):g:=let ⟨a,b,c,hA,hB,hC⟩:=h;k a b c hA hB hC
theorem eQ33{A B C D:Q->R->S->Prop}(k:∀a b c,A a b c->B a b c->C a b c->D a b c->g)(h:∃a b c,A a b c/\B a b c/\C a b c/\D a b c):g:=let ⟨a,b,c,hA,hB,hC,hD⟩:=h;k a b c hA hB hC hD
theorem eQ34{A B C D E:Q->R->S->Prop}(k:∀a b c,A a b c->B a b c->C a b c->D a b c->E a b c->g)(h:∃a b c,A a b c/\B a b c/\C a b c/\D a b c/\E a b c):g:=let ⟨a,b,c,hA,hB,hC,hD,hE⟩:=h;k a b c hA hB hC hD hE
theorem eQ40{A:Q->R->S->T->Prop}(k:∀a b c d,A a b c d->g)(h:∃a b c d,A a b c d):g:=let ⟨a,b,c,d,hA⟩:=h;k a b c d hA
theorem eQ41{A B:Q->R->S->T->Prop}(k:∀a b c d,A a b c d->B a b c d->g)(h:∃a b c d,A a b c d/\B a b c d):g:=let ⟨a,b,c,d,hA,hB⟩:=h;k a b c d hA hB
theorem eQ42{A B C:Q->R->S->T->Prop}(k:∀a b c d,A a b c d->B a b c d->C a b c d->g)(h:∃a b c d,A a b c d/\B a b c d/\C a b c d):g:=let ⟨a,b,c,d,hA,hB,hC⟩:=h;k a b c d hA hB hC
theorem eQ43{A B C D:Q->R->S->T->Prop}(k:∀a b c d,A a b c d->B a b c d->C a b c d->D a b c d->g)(h:∃a b c d,A a b c d/\B a b c d/\C a b c d/\D a b c d):g:=let ⟨a,b,c,d,hA,hB,hC,hD⟩:=h;k a b c d hA hB hC hD
theorem eQ44{A B C D E:Q->R->S->T->Prop}(k:∀a b c d,A a b c d->B a b c d->C a b c d->D a b c d->E a b c d->g)(h:∃a b c d,A a b c d/\B a b c d/\C a b c d/\D a b c d/\E a b c d):g:=let ⟨a,b,c,d,hA,hB,hC,hD,hE⟩:=h;k a b c d hA hB hC hD hE
end
@[inline] def zT(v:Option Lean.Term)(q:Array (Lean.TSyntax `Lean.Parser.Tactic.rcasesPatLo))(ps:Array (Lean.TSyntax `rintroPat)):Lean.MacroM (Lean.TSyntax `tactic):=do
 let n:=q.size
 let mut t<-match v with
  |none=>`(tactic|(intro h;rcases h with ⟨$q,*⟩))
  |some v=>`(tactic|rcases $v:term with ⟨$q,*⟩)
 if ps.size>0 then t<-`(tactic|$t:tactic<;>rintro $ps*)
 for s in [2:n] do
  let mut p:=#[]
  let mut hs:=#[]
  for x in q[:if s+1=n then n else s] do
   if x.raw[0][0].getNumArgs==1&&x.raw[0][0][0][0].getId==`rfl then
    let h:=Lean.mkIdent (<-Lean.MonadQuotation.addMacroScope (.mkSimple s!"h{hs.size}"))
    hs:=hs.push h
    p:=p.push (<-`(rintroPat|$h:ident))
   else p:=p.push (<-`(rintroPat|($x:rcasesPatLo)))
  if s+1<n then
   let r:=q[s:].toArray
   p:=p.push (<-`(rintroPat|⟨$r,*⟩))
  p:=p++ps
  let mut u<-`(tactic|rintro $p*)
  if hs.size>0 then u<-`(tactic|$u:tactic<;>subst $hs*)
  for i in [0:s+1] do
   if i<5&&s-i<5 then
    let nm:=Lean.mkIdent (.mkSimple s!"eQ{i}{s-i}")
    match v with
    |none=>t<-`(tactic|first|(refine $nm ?_;$u:tactic)|$t:tactic)
    |some v=>if v.raw.isIdent then t<-`(tactic|first|(refine $nm ?_ $v;(try clear $v);$u:tactic)|$t:tactic) else t<-`(tactic|first|(refine $nm ?_ $v;$u:tactic)|$t:tactic)
 pure t
theorem Jk{p:Prop}(h:p:=by decide +kernel):p:=h
theorem Jl{p:Prop}(h:p:=by kernel_rfl):p:=h
theorem Jm{p:Prop}(h:p:=by decide):p:=h
theorem Jn{p:Prop}(h:p:=by omega):p:=h
theorem Jo{p:Prop}(h:p:=by simp):p:=h
theorem Jp{p:Prop}(h:p:=by rfl):p:=h
end Zq
open Zq
local macro_rules|`(tactic|obtain ⟨$p,*⟩:=$v)=>if p.getElems.size<3 then Lean.Macro.throwUnsupported else zT v p #[]
local macro_rules|`(tactic|rintro $p*)=>do
 let some t:=p.findIdx? fun x=>x.raw[0].isOfKind `Lean.Parser.Tactic.rcasesPat.tuple&&x.raw[0][1].getSepArgs.size>2|Lean.Macro.throwUnsupported
 let b<-zT none (p[t]!.raw[0][1].getSepArgs.map (⟨·⟩)) p[t+1:].toArray
 let a:=p[:t].toArray
 if t>0 then `(tactic|(rintro $a*;$b:tactic)) else pure b
section
open PySem PySem.Spec PyProof.Rows
namespace L2
abbrev Key:=Sum Int Str
def jf:Key->Value->Bool
 | .inl k,v=>Value.isInt k v
 | .inr x,v=>Value.isStrOf x v
def Iy(w:World):Key->Int
 | .inl k=>hashInt k
 | .inr x=>hashStr w x
theorem c7:∀{k:Key} {v:Value},jf k v=true->(∃i t,k=Sum.inl i/\v=Value.int i t)\/(∃x t,k=Sum.inr x/\v=Value.str x t)
 | .inl i,v,h=>by
  obtain ⟨t,e⟩:=Value.isInt_shape (k:=i) (v:=v) h;exact .inl (zAD i t rfl e)
 | .inr x,v,h=>by obtain ⟨t,e⟩:=Value.isStrOf_shape (x:=x) (v:=v) h;exact .inr (zAD x t rfl e)
theorem vG(i:Int)(t:Tok):jf (.inl i) (.int i t)=true:=by simp [jf,Value.isInt]
theorem vH(x:Str)(t:Tok):jf (.inr x) (.str x t)=true:=by simp [jf,Value.isStrOf]
theorem Dx(a b:Int):decide ((Sum.inl a:Key)=Sum.inl b)=(a==b):=by
 by_cases e:a=b
 ·subst e;simp
 ·have h:¬(Sum.inl a:Key)=Sum.inl b:=fun q=>e (Sum.inl.inj q);rw [decide_eq_false h];exact (beq_eq_false_iff_ne.mpr e).symm
theorem DA(a b:Str):decide ((Sum.inr a:Key)=Sum.inr b)=decide (a=b):=by
 by_cases e:a=b
 ·subst e;simp
 ·have h:¬(Sum.inr a:Key)=Sum.inr b:=fun q=>e (Sum.inr.inj q);rw [decide_eq_false h,decide_eq_false e]
theorem Dy(a:Int)(b:Str):decide ((Sum.inl a:Key)=Sum.inr b)=false:=decide_eq_false (fun q=>nomatch q)
theorem Dz(a:Str)(b:Int):decide ((Sum.inr a:Key)=Sum.inl b)=false:=decide_eq_false (fun q=>nomatch q)
def bi(prog:Program)(w:World):PySem.KeyKind prog w Key where
 is:=jf
 hash:=Iy w
 inj:=fun v a b ha hb=>by
  rcases c7 ha with ⟨i,t,rfl,rfl⟩ | ⟨x,t,rfl,rfl⟩
  ·rcases c7 hb with ⟨j,u,rfl,e⟩ | ⟨y,u,rfl,e⟩
   ·injection e with e1 _;rw [e1]
   ·exact nomatch e
  ·rcases c7 hb with ⟨j,u,rfl,e⟩ | ⟨y,u,rfl,e⟩
   ·exact nomatch e
   ·injection e with e1 _;rw [e1]
 byValue:=fun k v h=>by rcases c7 h with ⟨i,t,rfl,rfl⟩ | ⟨x,t,rfl,rfl⟩<;>rfl
 pyHash:=fun hv h=>by
  rcases c7 hv with ⟨i,t,rfl,rfl⟩ | ⟨x,t,rfl,rfl⟩
  ·exact wpAny_pyHash_int h
  ·exact wpAny_pyHash_str h
 eqBool:=fun hu hv h=>by
  rcases c7 hu with ⟨i,t,rfl,rfl⟩ | ⟨x,t,rfl,rfl⟩
  ·rcases c7 hv with ⟨j,u,rfl,rfl⟩ | ⟨y,u,rfl,rfl⟩
   ·rw [Dx] at h;exact wpAny_eqBool_int h
   ·rw [Dy] at h;exact SeqAt.EqAt.int_str i t y u _ _ _ _ h
  ·rcases c7 hv with ⟨j,u,rfl,rfl⟩ | ⟨y,u,rfl,rfl⟩
   ·rw [Dz] at h;exact SeqAt.EqAt.str_int x t j u _ _ _ _ h
   ·rw [DA] at h;exact wpAny_eqBool_str h
 «strs»:=fun k x t v h=>by
  rcases c7 h with ⟨i,u,rfl,e⟩ | ⟨y,u,rfl,e⟩
  ·exact nomatch e
  ·injection e with e1 _;subst e1
   cases v<;>rfl
theorem oY(prog:Program)(w:World)(i:Int)(t:Tok):(bi prog w).is (.inl i) (.int i t)=true:=vG i t
theorem oZ(prog:Program)(w:World)(x:Str)(t:Tok):(bi prog w).is (.inr x) (.str x t)=true:=vH x t
end L2
namespace L2
inductive V where
 |non | bl (b:Bool) | int (i:Int) | str (x:Str) | byt (b:Array UInt8) | flt (b:UInt64) | ref (a:Addr) | ty (n:String)
 deriving DecidableEq
def RelV:V->Value->Prop
 | .non,u=>u=Value.none
 | .bl b,u=>u=Value.bool b
 | .int i,u=>∃t,u=Value.int i t
 | .str x,u=>∃t,u=Value.str x t
 | .byt b,u=>∃t,u=Value.bytes b t
 | .flt b,u=>∃t,u=Value.float b t
 | .ref a,u=>u=Value.ref a
 | .ty n,u=>u=Value.type n
abbrev Vals:List V->List Value->Prop:=Paired RelV
theorem Vals.length{xs:List V}{us:List Value}(r:Vals xs us):xs.length=us.length:=Paired.length r
theorem Vals.get:∀{xs:List V} {us:List Value} {i:Nat} {x:V},Vals xs us->xs[i]?=some x->∃u,us[i]?=some u/\RelV x u
 |_,_,_,_,.nil,e=>by simp at e
 |_,_,0,_,.cons r _,e=>by simp at e;subst e;exact zn _ rfl r
 |_,_,i+1,x,.cons _ t,e=>by obtain ⟨u,h1,h2⟩:=Vals.get (i:=i) (x:=x) t (by simpa using e);exact zn u (by simpa using h1) h2
theorem Vals.set{x:V}{u:Value}(r:RelV x u):∀{xs:List V} {us:List Value} (i:Nat),Vals xs us->Vals (xs.set i x) (us.set i u)
 |_,_,_,.nil=>.nil
 |_,_,0,.cons _ t=>.cons r t
 |_,_,i+1,.cons q t=>.cons q (Vals.set r i t)
theorem Vals.append:∀{xs ys:List V} {us ws:List Value},Vals xs us->Vals ys ws->Vals (xs++ys) (us++ws)
 |_,_,_,_,.nil,s=>s
 |_,_,_,_,.cons r t,s=>.cons r (Vals.append t s)
theorem Vals.take:∀{xs:List V} {us:List Value} (n:Nat),Vals xs us->Vals (xs.take n) (us.take n)
 |_,_,0,_=>.nil
 |_,_,_+1,.nil=>.nil
 |_,_,n+1,.cons r t=>.cons r (Vals.take n t)
theorem Vals.drop:∀{xs:List V} {us:List Value} (n:Nat),Vals xs us->Vals (xs.drop n) (us.drop n)
 |_,_,0,r=>r
 |_,_,_+1,.nil=>.nil
 |_,_,n+1,.cons _ t=>Vals.drop n t
def RelO:Option V->Option Value->Prop
 |some v,some u=>RelV v u
 |none,none=>True
 |_,_=>False
def KV{κ:Type}:List (κ×V)->List (κ×Value)->Prop:=Paired fun (p:κ×V) (q:κ×Value)=>p.1=q.1/\RelV p.2 q.2
def kV:Key->V
 | .inl i=>.int i
 | .inr x=>.str x
inductive HO where
 /-- a list -/
 |lst (xs:List V)
 /-- a tuple (never changes) -/
 |tup (xs:List V)
 /-- a dict whose keys are ints and texts;one whose keys are tuples of ints and texts (the empty one is both) -/
 |dK (kvs:List (Key×V)) | dT (kvs:List (List Key×V))
 /-- a set of ints: its members,its size -/
 |set (S:Int->Bool) (n:Nat)
 /-- an instance of the class at C,its dict at dx,its attributes -/
 |ins (C dx:Addr) (fs:List (Str×V))
 /-- the dict of the instance at x -/
 |own (x:Addr)
 /-- the dict of an exception -/
 |xd (fs:List (Str×V))
 /-- a bound method,f of x -/
 |met (f x:Addr)
 /-- a range object lo,lo+1,.. below hi -/
 |rng (lo hi:Int)
 /-- a thing that is known to the object (the script;a dict while a loop walks it): read,never written while it is so -/
 |frz (o:Obj) (u:HO)
 /-- a code object's table -/
 |tbl (ps:Array Value)
 /-- any other thing,by what is true of its one object (a def of one's own: SetO a S n:=HO.ext fun h=>..) -/
 |ext (φ:Heap->Prop)
abbrev Hp:=Addr->Option HO
variable {b:Addr} {u:HO}
def upd(H:Hp)(a:Addr)(o:HO):Hp:=fun b=>if b=a then some o else H b
theorem aj{H:Hp}{a:Addr}{o:HO}:upd H a o a=some o:=by unfold upd;rw [if_pos rfl]
theorem aq{H:Hp}{a:Addr}{o:HO}(h:b≠a):upd H a o b=H b:=by unfold upd;rw [if_neg h]
theorem Ce{H:Hp}{a:Addr}{o:HO}:upd (upd H a o) a u=upd H a u:=by funext b;unfold upd;split<;>rfl
theorem bN{H:Hp}{a:Addr}{o:HO}(h:H a=some o)(h':H b=some u)(d:o≠u):a≠b:=by intro e;subst e;rw [h] at h';exact d (Option.some.inj h')
theorem ao{H:Hp}{a:Addr}{o:HO}(h:H a=some o)(h':H b=none):a≠b:=by intro e;subst e;rw [h] at h';cases h'
section
variable (P:Program) (w:World)
def ObjOk(H:Hp)(h:Heap)(a:Addr):HO->Prop
 | .lst xs=>xs.length<=sizeLine/\∃(its:List Value)(n:Nat),Vals xs its/\h.get? a=some {cls:=.type "list",data:=.seq its.toArray n}
 | .tup xs=>xs.length<=sizeLine/\∃its:List Value,Vals xs its/\IsTup h a its.toArray
 | .dK kvs=>kvs.length<=sizeLine/\(a==sysModules)=false/\∃vs,KV kvs vs/\h.DictOf (bi P w) a vs
 | .dT kvs=>kvs.length<=sizeLine/\(a==sysModules)=false/\∃xs:List (List Key×Addr×Value),
   Paired (fun (p:List Key×V) (q:List Key×Addr×Value)=>p.1=q.1/\H q.2.1=some (.tup (p.1.map kV))/\RelV p.2 q.2.2) kvs xs/\
   ∃o es ep,h.get? a=some o/\o.ExactDict/\o.data=.dict es ep/\es.toList=xs.map (entryOfKey (tupleKind (bi P w)))/\(xs.map (·.1)).Nodup
 | .set S n=>h.SetOf (intKind P w) a S n
 | .ins C dx fs=>H dx=some (.own a)/\fs.length<=1000/\dx≠a/\h.get? a=some (W.instObj C dx)/\
   ∃mA,h.Ns1 dx mA/\(∀f,RelO (fs.lookup f) (mA f))/\PySem.Within mA (fs.map (·.1))
 | .own _=>∃o,h.get? a=some o
 | .xd fs=>∃mA,h.Ns1 a mA/\∀f,RelO (fs.lookup f) (mA f)
 | .rng lo hi=>∃t u v,h.get? a=some {cls:=.type "range",data:=.fields #[.int lo t,.int hi u,.int 1 v]}
 | .frz o u=>h.get? a=some o/\ObjOk H h a u
 | .tbl ps=>h.get? a=some {cls:=.none,data:=.fields ps}
 | .met f x=>h.get? a=some (W.methodObj (.ref f) (.ref x))
 | .ext φ=>φ h/\(∃o,h.get? a=some o)/\∀h1 h2:Heap,φ h1->(∀o,h1.get? a=some o->h2.get? a=some o)->φ h2
def HOk(H:Hp)(h:Heap):Prop:=∀a o,H a=some o->ObjOk P w H h a o
end
section
variable {P:Program} {w:World} {H H':Hp} {h h':Heap} {a:Addr} {o:HO}
theorem ObjOk.lt(x:ObjOk P w H h a o):a<h.objs.size:=by
 cases o with
 |lst xs=>obtain ⟨_,_,_,_,e⟩:=x;exact zq7 e
 |tup xs=>obtain ⟨_,_,_,p⟩:=x;exact p.lt
 |dK kvs=>obtain ⟨_,_,_,_,o,_,_,e,_⟩:=x;exact zq7 e
 |dT kvs=>obtain ⟨_,_,_,_,o,_,_,e,_⟩:=x;exact zq7 e
 |set S n=>obtain ⟨o,_,_,_,e,_⟩:=x;exact zq7 e
 |ins C dx fs=>obtain ⟨_,_,_,e,_⟩:=x;exact zq7 e
 |own y=>obtain ⟨_,e⟩:=x;exact zq7 e
 |xd fs=>obtain ⟨_,⟨_,_,_,e,_⟩,_⟩:=x;exact zq7 e
 |rng lo hi=>obtain ⟨_,_,_,e⟩:=x;exact zq7 e
 |frz ob u=>obtain ⟨e,_⟩:=x;exact zq7 e
 |tbl ps=>exact zq7 (show h.get? a=some _ from x)
 |met f y=>exact zq7 (show h.get? a=some _ from x)
 |ext φ=>obtain ⟨_,⟨_,e⟩,_⟩:=x;exact zq7 e
theorem Paired.mapP{α β:Type}{F G:α->β->Prop}:∀{l₁:List α} {l₂:List β},Paired F l₁ l₂->(∀a b,F a b->G a b)->Paired G l₁ l₂
 |_,_,.nil,_=>.nil
 |_,_,.cons r t,f=>.cons (f _ _ r) (Paired.mapP t f)
theorem ObjOk.stay(x:ObjOk P w H h a o)(k:∀b u,(b=a\/H b=some (.own a))->h.get? b=some u->h'.get? b=some u)
  (ho:∀b,H b=some (.own a)->H' b=some (.own a)) (ht:∀b xs,H b=some (.tup xs)->H' b=some (.tup xs)):ObjOk P w H' h' a o:=by
 induction o with
 |lst xs=>obtain ⟨z,its,n,r,e⟩:=x;exact ⟨z,zAD its n r (k _ _ (.inl rfl) e)⟩
 |tup xs=>obtain ⟨z,its,r,ob,e,c⟩:=x;exact ⟨z,zn its r (zn ob (k _ _ (.inl rfl) e) c)⟩
 |dK kvs=>obtain ⟨z,y,vs,r,ob,es,ep,e,c⟩:=x;exact zAB z y (zn vs r (zAI ob es ep (k _ _ (.inl rfl) e) c))
 |dT kvs=>
  obtain ⟨z,y,xs,r,ob,es,ep,e,c⟩:=x;exact zAB z y (zn xs (Paired.mapP r fun p q z=>zAB z.1 (ht _ _ z.2.1) z.2.2) (zAI ob es ep (k _ _ (.inl rfl) e) c))
 |set S n=>obtain ⟨ob,es,ep,t,e,c⟩:=x;exact zAP ob es ep t (k _ _ (.inl rfl) e) c
 |ins C dx fs=>
  obtain ⟨d,z,ne,e,mA,⟨od,es,ep,e2,c⟩,r⟩:=x;exact zAJ (ho _ d) z ne (k _ _ (.inl rfl) e) (zn mA (zAI od es ep (k _ _ (.inr d) e2) c) r)
 |own y=>obtain ⟨ob,e⟩:=x;exact ⟨ob,k _ _ (.inl rfl) e⟩
 |xd fs=>obtain ⟨mA,⟨od,es,ep,e,c⟩,r⟩:=x;exact zn mA (zAI od es ep (k _ _ (.inl rfl) e) c) r
 |rng lo hi=>obtain ⟨t,u,v,e⟩:=x;exact zAK t u v (k _ _ (.inl rfl) e)
 |frz ob u ih=>obtain ⟨e,q⟩:=x;exact ⟨k _ _ (.inl rfl) e,ih q⟩
 |tbl ps=>
  have e:h.get? a=some {cls:=.none,data:=.fields ps}:=x;show h'.get? a=some {cls:=.none,data:=.fields ps};exact k a _ (.inl rfl) e
 |met f y=>
  have e:h.get? a=some (W.methodObj (.ref f) (.ref y)):=x;show h'.get? a=some (W.methodObj (.ref f) (.ref y));exact k a _ (.inl rfl) e
 |ext φ=>obtain ⟨p,⟨o,e⟩,st⟩:=x;exact zAB (st _ _ p fun o q=>k _ _ (.inl rfl) q) ⟨o,k _ _ (.inl rfl) e⟩ st
theorem HOk.lt(x:HOk P w H h)(e:H a=some o):a<h.objs.size:=(x a o e).lt
theorem HOk.fresh(x:HOk P w H h)(e:h.objs.size<=a):H a=none:=by
 cases q:H a with
 |none=>rfl
 |some u=>exact absurd (dS (x.lt q) e) (nJ _)
theorem HOk.kept(x:HOk P w H h)(k:∀b u,h.get? b=some u->h'.get? b=some u):HOk P w H h':=fun a o e=>(x a o e).stay (fun b u _ q=>k b u q) (fun _ q=>q) fun _ _ q=>q
theorem HOk.laid(x:HOk P w H h)(k:∀b u,h.get? b=some u->h'.get? b=some u)(hp:h.objs.size<=a)(new:ObjOk P w (upd H a o) h' a o):HOk P w (upd H a o) h':=fun b u e=>by
 have hn:=x.fresh hp
 by_cases hb:b=a
 ·subst hb;rw [aj] at e;cases e;exact new
 ·rw [aq hb] at e;exact (x b u e).stay (fun c v _ q=>k c v q) (fun c q=>by rw [aq (ao q hn)];exact q) fun c xs q=>by rw [aq (ao q hn)];exact q
end
def Rd(H:Hp)(a:Addr)(u:HO):Prop:=H a=some u\/∃o,H a=some (.frz o u)
theorem Rd.ok{P:Program}{w:World}{H:Hp}{h:Heap}{a:Addr}(r:Rd H a u)(x:HOk P w H h):ObjOk P w H h a u:=by
 rcases r with r | ⟨o,r⟩
 ·exact x a u r
 ·obtain ⟨_,q⟩:=x a _ r;exact q
def Mut:Option HO->Prop
 |some (.lst _)=>True
 |some (.dK _)=>True
 |some (.dT _)=>True
 |some (.set _ _)=>True
 |some (.ins _ _ _)=>True
 |some (.ext _)=>True
 |_=>False
section
variable {P:Program} {w:World} {H:Hp} {h h':Heap} {x e:Addr} {o':HO}
theorem HOk.write(ok:HOk P w H h)(mu:Mut (H x))(he:e=x\/H e=some (.own x))(k:∀b u,b≠e->h.get? b=some u->h'.get? b=some u)(heo:∃u,h'.get? e=some u)
  (new:ObjOk P w (upd H x o') h' x o'):HOk P w (upd H x o') h':=fun b u q=>by
 have nown:∀c y,H c=some (.own y)->c≠x:=fun c y r z=>by subst z;rw [r] at mu;exact mu
 have ntup:∀c xs,H c=some (.tup xs)->c≠x:=fun c xs r z=>by subst z;rw [r] at mu;exact mu
 by_cases hb:b=x
 ·subst hb;rw [aj] at q;cases q;exact new
 ·rw [aq hb] at q
  by_cases hbe:b=e
  ·have q':H b=some (.own x):=by
    rcases he with z | z
    ·exact absurd (hbe.trans z) hb
    ·rw [hbe];exact z
   rw [q] at q';cases q';obtain ⟨v,hv⟩:=heo;exact ⟨v,by rw [hbe];exact hv⟩
  ·refine (ok b u q).stay (fun c v hc r=>k c v ?_ r) (fun c r=>by rw [aq (nown c b r)];exact r) fun c xs r=>by rw [aq (ntup c xs r)];exact r
   rcases hc with rfl | hc
   ·exact hbe
   ·rintro rfl;rcases he with z | z
    ·exact nown c b hc z
    ·rw [hc] at z;cases z;exact hb rfl
end
structure Un(fs ex:List Addr)(H H':Hp)(h h':Heap):Prop where
 keep:∀b o,h.get? b=some o->H b=none->b∉fs->b∉ex->h'.get? b=some o
 slot:∀b o,h.get? b=some o->H b=none->b∈fs->b∉ex->∃sl,h'.get? b=some {o with slots:=sl}
 free:∀b o,h.get? b=some o->H b=none->b∉ex->H' b=none
 there:∀b o,h.get? b=some o->b∉ex->∃o',h'.get? b=some o'
 tups:∀b xs,H b=some (.tup xs)->H' b=some (.tup xs)
 frzs:∀b o u,H b=some (.frz o u)->H' b=some (.frz o u)
 tbls:∀b ps,H b=some (.tbl ps)->∃more,H' b=some (.tbl (ps++more))
section
variable {fs fs' ex ex':List Addr} {H H1 H2:Hp} {h h1 h2 h':Heap} {a x e:Addr} {o:HO}
theorem Un.any(u:Un fs ex H H1 h h1){ob:Obj}(q:h.get? b=some ob)(n:H b=none)(hx:b∉ex):∃sl,h1.get? b=some {ob with slots:=sl}:=by
 by_cases hb:b∈fs
 ·exact u.slot b ob q n hb hx
 ·exact ⟨ob.slots,u.keep b ob q n hb hx⟩
theorem Un.kept(k:∀b u,h.get? b=some u->h'.get? b=some u):Un fs ex H H h h':=
 ⟨fun b ob q _ _ _=>k b ob q,fun b ob q _ _ _=>⟨ob.slots,k b ob q⟩,fun _ _ _ n _=>n,fun b ob q _=>⟨ob,k b ob q⟩,fun _ _ q=>q,fun _ _ _ q=>q,fun _ ps q=>⟨#[],by rw [q];simp⟩⟩
theorem Un.refl:Un fs ex H H h h:=Un.kept fun _ _ q=>q
theorem Un.laid(k:∀b u,h.get? b=some u->h'.get? b=some u)(hp:h.objs.size<=a)(hn:H a=none):Un fs ex H (upd H a o) h h' where
 keep:=fun b u q _ _ _=>k b u q
 slot:=fun b u q _ _ _=>⟨u.slots,k b u q⟩
 free:=fun b u q n _=>by rw [aq (cD (dS (zq7 q) hp))];exact n
 there:=fun b u q _=>⟨u,k b u q⟩
 tups:=fun b xs q=>by rw [aq (ao q hn)];exact q
 frzs:=fun b u xs q=>by rw [aq (ao q hn)];exact q
 tbls:=fun b ps q=>⟨#[],by rw [aq (ao q hn),q];simp⟩
theorem Un.write(mu:Mut (H x))(he:e=x\/H e=some (.own x))(k:∀b u,b≠e->h.get? b=some u->h'.get? b=some u)(heo:∃u,h'.get? e=some u):Un fs ex H (upd H x o) h h':=by
 have hx:∀b,H b=none->b≠x:=fun b n z=>by subst z;rw [n] at mu;exact mu
 have hb:∀b,H b=none->b≠e:=fun b n z=>by
  subst z;rcases he with r | r
  ·exact hx b n r
  ·rw [n] at r;cases r
 have hm:∀b u,H b=some u->¬Mut (some u)->b≠x:=fun b u q nm z=>by subst z;rw [q] at mu;exact nm mu
 refine ⟨fun b u q n _ _=>k b u (hb b n) q,fun b u q n _ _=>⟨u.slots,k b u (hb b n) q⟩,fun b u q n _=>by rw [aq (hx b n)];exact n,fun b u q _=>?_,
  fun b xs q=>by rw [aq (hm b _ q fun z=>z)];exact q,fun b u xs q=>by rw [aq (hm b _ q fun z=>z)];exact q,fun b ps q=>⟨#[],by rw [aq (hm b _ q fun z=>z),q];simp⟩⟩
 by_cases hbe:b=e
 ·subst hbe;exact heo
 ·exact ⟨u,k b u hbe q⟩
end
def trk(h:Heap)(H:Hp):List Addr:=(List.range h.objs.size).filter fun a=>(H a).isSome
def mK(h:Heap)(H:Hp):Heap:=W.hideAll h (trk h H)
theorem vA(h:Heap)(H:Hp):(mK h H).objs.size=h.objs.size:=W.hideAll_size _ _
theorem xH{h:Heap}{H:Hp}{o:Obj}(e:h.get? b=some o)(n:H b=none):(mK h H).get? b=some o:=
 W.hideAll_get _ e fun hm=>by have q:(H b).isSome=true:=(zq39.mp hm).2;rw [n] at q;simp at q
theorem Bh{h:Heap}{H:Hp}{o:Obj}(e:(mK h H).get? b=some o):h.get? b=some o/\H b=none:=by
 have e':h.get? b=some o:=W.of_hideAll (trk h H) e;refine ⟨e',?_⟩
 cases q:H b with
 |none=>rfl
 |some x=>have hm:b∈trk h H:=zq39.mpr ⟨zq36.mpr (zq7 e'),by simp [q]⟩;have z:(mK h H).get? b=none:=W.hideAll_none (trk h H) hm;rw [z] at e;cases e
def AR(g h:Heap)(L:Addr):List (Addr×Obj):=(List.range h.objs.size).filterMap fun a=>if a=L\/(g.get? a).isSome=true then none else (h.get? a).map fun o=>(a,o)
def fQ(g h:Heap)(L d:Addr):List (Addr×Obj):=(AR g h L).filter fun p=>decide (p.1≠d)
end L2
namespace L2
structure Mod(K:W.Frag)(mg:Str->Option Value)(base:Heap):Prop where
 kin:K.In base
 glob:base.Ns mainGlobals mg
 blt:∃mb,base.Ns builtinsNs mb/\∀x:Str,x≠"__name__"->mb x=bootBuiltins x
 nolimit:base.NoLimit
structure Cx where
 prog:Program
 w:World
 K:W.Frag
 mg:Str->Option Value
 base:Heap
 A:Around
 N:List Str
 s₀:Shared
 H₀:Hp
 env:Env
 outer:List Env
 stack:List Env
 ex:List Addr
 fn:Str->Bool
 calm:Bool
 pn:List (Addr×Obj)
 xe:Value->Shared->Prop
def frs(l:List Env):List Addr:=l.filterMap (·.frame)
abbrev Cx.fs (X:Cx):List Addr:=frs X.outer
def Vis(sc:Scope)(x:Str):Prop:=sc.names.lookup x=some .local\/sc.names.lookup x=some .cell\/sc.names.lookup x=some .free
def Loc(sc:Scope)(x:Str):Prop:=sc.names.lookup x=some .local\/sc.names.lookup x=some .cell
def Iu(env:Env)(h:Heap)(m:Str->Option Value)(x:Str)(u:Value):Prop:=
 (env.kindOf x=some .local/\m x=some u)\/((env.kindOf x=some .cell\/env.kindOf x=some .free)/\∃c,env.cells.lookup x=some c/\h.IsCell c (some u))
structure Cx.Ok(X:Cx):Prop where
 mod:Mod X.K X.mg X.base
 kind:X.env.scope.kind=.function
 glob:X.env.globals=mainGlobals
 blt:X.env.builtins=builtinsNs
 above:X.s₀.heap.objs.size<=X.env.locals
 inj:∀x y c,X.env.cells.lookup x=some c->X.env.cells.lookup y=some c->x=y
 has:∀x,(X.env.kindOf x=some .cell\/X.env.kindOf x=some .free)->∃c,X.env.cells.lookup x=some c
 cab:∀x c,X.fn x=true->X.env.cells.lookup x=some c->X.s₀.heap.objs.size<=c
 hd:X.calm=true->X.A.handled=none
 frames:X.A.frames=some X.stack
 stk:X.stack=X.outer\/(X.stack=X.env::X.outer/\X.env.frame=some X.env.locals)
 exf:∀b∈X.ex,b≠X.env.locals/\∀x c,X.env.cells.lookup x=some c->c≠b
 bs:∀b o,X.base.get? b=some o->X.s₀.heap.get? b=some o/\X.H₀ b=none
 bsz:X.base.objs.size<=X.s₀.heap.objs.size
 noex:∀b o,X.base.get? b=some o->b∉X.ex
 exfs:∀b∈X.ex,b∉X.fs
 funs:X.s₀.heap.FunFrames X.base X.outer
 frf:∀b∈X.fs,X.H₀ b=none
structure Inv(X:Cx)(pins:List (Addr×Obj))(σ:List (Option V))(H:Hp)(s:Shared):Prop where
 ok:X.Ok
 os:s.os=X.s₀.os
 bare:AllBare s.gens
 base:Un X.fs X.ex X.H₀ H X.s₀.heap s.heap
 loc:∃m,s.heap.Ns X.env.locals m/\∀(i:Nat)(x:Str)(v:V),X.N[i]?=some x->σ[i]?=some (some v)->Vis X.env.scope x->∃u,RelV v u/\Iu X.env s.heap m x u
 cell:∀x c,X.env.cells.lookup x=some c->∃v,s.heap.IsCell c v
 free:H X.env.locals=none
 freeC:∀x c,X.env.cells.lookup x=some c->H c=none
 pin:∀p∈X.pn++pins,s.heap.get? p.1=some p.2/\H p.1=none/\p.1≠X.env.locals/\p.1∉X.fs/\∀v,p.2.data≠.cell v
 hok:HOk X.prog X.w H s.heap
 len:σ.length=X.N.length
section
variable {X:Cx} {pins:List (Addr×Obj)} {σ:List (Option V)} {H H':Hp} {s:Shared} {h':Heap}
theorem Cx.Ok.nofr(ok:X.Ok){b:Addr}{o:Obj}(e:X.base.get? b=some o):b∉X.fs:=fun hb=>by have:=(ok.funs.mem hb).1;rw [e] at this;cases this
theorem Inv.bs(I:Inv X pins σ H s):∀b o,X.base.get? b=some o->s.heap.get? b=some o/\H b=none:=fun b o e=>⟨I.base.keep b o (I.ok.bs b o e).1 (I.ok.bs b o e).2 (I.ok.nofr e) (I.ok.noex b o e),I.base.free b o (I.ok.bs b o e).1 (I.ok.bs b o e).2 (I.ok.noex b o e)⟩
theorem Inv.bk(I:Inv X pins σ H s):∀b o,X.base.get? b=some o->s.heap.get? b=some o:=fun b o e=>(I.bs b o e).1
theorem Inv.mod(I:Inv X pins σ H s):Mod X.K X.mg X.base:=I.ok.mod
theorem Inv.kIn(I:Inv X pins σ H s):X.K.In s.heap:=I.ok.mod.kin.keeps I.bk
theorem Inv.lt(I:Inv X pins σ H s):X.env.locals<s.heap.objs.size:=let ⟨_,hn,_⟩:=I.loc;hn.lt
theorem Inv.sz(I:Inv X pins σ H s):X.s₀.heap.objs.size<=s.heap.objs.size:=cR I.ok.above (nK I.lt)
theorem Inv.nofs(I:Inv X pins σ H s){a:Addr}(h:s.heap.objs.size<=a):a∉X.fs:=fun hb=>by obtain ⟨_,o,ho,_⟩:=I.ok.funs.mem hb;exact absurd (dS (zq7 ho) (cR I.sz h)) (nJ _)
theorem Inv.cne(I:Inv X pins σ H s):∀x c,X.env.cells.lookup x=some c->c≠X.env.locals:=fun x c e z=>by obtain ⟨v,o,ho,hd⟩:=I.cell x c e;obtain ⟨m,⟨o',es,ep,ho',hd',_⟩,_⟩:=I.loc;rw [z,ho'] at ho;cases ho;rw [hd'] at hd;cases hd
theorem Inv.funs(I:Inv X pins σ H s):s.heap.FunFrames X.base X.outer:=by
 have all:∀(l:List Env),(∀b∈frs l,b∈X.fs)->X.s₀.heap.FunFrames X.base l->s.heap.FunFrames X.base l:=by
  intro l
  induction l with
  |nil=>intro _ _;trivial
  |cons env r ih=>intro hs hl;obtain ⟨hk,⟨L,o,hf,hn,ho,hd⟩,hr⟩:=hl;have hL:L∈X.fs:=hs L (by unfold frs;rw [Ab,hf];exact eL);obtain ⟨sl,e⟩:=I.base.slot L o ho (I.ok.frf L hL) hL fun z=>I.ok.exfs L z hL;exact zAB hk (zAE L _ hf hn e hd) (ih (fun b hb=>hs b (by unfold frs;rw [Ab,hf];exact zq9 _ hb)) hr)
 exact all X.outer (fun _ hb=>hb) I.ok.funs
theorem Inv.stack(I:Inv X pins σ H s):s.heap.FunFrames X.base X.stack:=by
 rcases I.ok.stk with e | ⟨e,hf⟩
 ·rw [e];exact I.funs
 ·rw [e];obtain ⟨m,hn,_⟩:=I.loc;refine .cons (by rw [I.ok.kind];decide) hf hn ?_ I.funs;exact Heap.get?_none_of_le (cR I.ok.bsz I.ok.above)
theorem Inv.stkSub(I:Inv X pins σ H s):∀b∈frs X.stack,b∈X.env.locals::X.fs:=fun b hb=>by
 rcases I.ok.stk with e | ⟨e,hf⟩
 ·rw [e] at hb;exact zq9 _ hb
 ·rw [e] at hb;unfold frs at hb;rw [Ab,hf] at hb;exact hb
theorem Inv.stkFree(I:Inv X pins σ H s):∀b∈frs X.stack,H b=none:=fun b hb=>by
 rcases zq5.mp (I.stkSub b hb) with e | hb
 ·rw [e];exact I.free
 ·obtain ⟨_,o,ho,_⟩:=I.ok.funs.mem hb;exact I.base.free b o ho (I.ok.frf b hb) fun z=>I.ok.exfs b z hb
theorem Inv.step{g':Array GenState}{t':Nat}{d':Drawn}{ch:List Addr}(I:Inv X pins σ H s)
  (hch:∀b∈ch,(b∈X.ex\/X.s₀.heap.objs.size<=b)/\b≠X.env.locals/\(∀x c,X.env.cells.lookup x=some c->c≠b)/\∀p∈X.pn++pins,p.1≠b)
  (keep:∀b o,b≠X.env.locals->b∉X.fs->b∉ch->s.heap.get? b=some o->H b=none->h'.get? b=some o)
  (slot:∀b o,b≠X.env.locals->b∈X.fs->b∉ch->s.heap.get? b=some o->H b=none->∃sl,h'.get? b=some {o with slots:=sl}) (free:∀b o,b∉ch->s.heap.get? b=some o->H b=none->H' b=none)
  (there:∀b o,b∉ch->s.heap.get? b=some o->∃o',h'.get? b=some o')
  (tups:∀b xs,H b=some (.tup xs)->H' b=some (.tup xs)) (frzs:∀b o u,H b=some (.frz o u)->H' b=some (.frz o u)) (tbls:∀b ps,H b=some (.tbl ps)->∃more,H' b=some (.tbl (ps++more)))
  (ns:∀m,s.heap.Ns X.env.locals m->h'.Ns X.env.locals m) (hok:HOk X.prog X.w H' h') (hg:AllBare g') :
  Inv X pins σ H' {s with heap:=h',gens:=g',drawn:=d',toks:=t'}:=by
 have neL:∀b o,X.s₀.heap.get? b=some o->b≠X.env.locals:=fun b o e=>cD (dS (zq7 e) I.ok.above);have neC:∀b o,X.s₀.heap.get? b=some o->b∉X.ex->b∉ch:=fun b o e hx hb=>by
  rcases (hch b hb).1 with z | z
  ·exact hx z
  ·exact absurd (dS (zq7 e) z) (nJ _)
 have cellK:∀x c,X.env.cells.lookup x=some c->∀v,s.heap.IsCell c v->h'.IsCell c v:=fun x c e v ⟨o,ho,hd⟩=>by
  have nch:c∉ch:=fun z=>(hch c z).2.2.1 x c e rfl
  by_cases hc:c∈X.fs
  ·obtain ⟨sl,q⟩:=slot c o (I.cne x c e) hc nch ho (I.freeC x c e);exact zn _ q hd
  ·exact zn o (keep c o (I.cne x c e) hc nch ho (I.freeC x c e)) hd
 refine ⟨I.ok,I.os,hg,⟨fun b o e n hb hx=>?_,fun b o e n hb hx=>?_,fun b o e n hx=>?_,fun b o e hx=>?_,fun b xs e=>tups b xs (I.base.tups b xs e),fun b o xs e=>frzs b o xs (I.base.frzs b o xs e),fun b ps e=>?_⟩,?_,fun x c e=>?_,?_,fun x c e=>?_,fun p hp=>?_,hok,I.len⟩
 ·exact keep b o (neL b o e) hb (neC b o e hx) (I.base.keep b o e n hb hx) (I.base.free b o e n hx)
 ·obtain ⟨sl,e1⟩:=I.base.slot b o e n hb hx;obtain ⟨sl',e2⟩:=slot b _ (neL b o e) hb (neC b o e hx) e1 (I.base.free b o e n hx);exact ⟨sl',e2⟩
 ·obtain ⟨o',e1⟩:=I.base.there b o e hx;exact free b o' (neC b o e hx) e1 (I.base.free b o e n hx)
 ·obtain ⟨o',e1⟩:=I.base.there b o e hx;exact there b o' (neC b o e hx) e1
 ·obtain ⟨m1,e1⟩:=I.base.tbls b ps e;obtain ⟨m2,e2⟩:=tbls b _ e1;exact ⟨m1++m2,by rw [e2,Array.append_assoc]⟩
 ·obtain ⟨m,hn,hl⟩:=I.loc;refine zn m (ns m hn) fun i x v e1 e2 e3=>?_;obtain ⟨u,r,l⟩:=hl i x v e1 e2 e3;refine zn u r ?_;rcases l with l | ⟨k,c,e,z⟩
  ·exact .inl l
  ·exact .inr ⟨k,zn c e (cellK x c e _ z)⟩
 ·obtain ⟨v,z⟩:=I.cell x c e;exact ⟨v,cellK x c e v z⟩
 ·obtain ⟨m,⟨o,_,_,ho,_⟩,_⟩:=I.loc;exact free _ o (fun z=>(hch _ z).2.1 rfl) ho I.free
 ·obtain ⟨v,o,ho,hd⟩:=I.cell x c e;exact free c o (fun z=>(hch c z).2.2.1 x c e rfl) ho (I.freeC x c e)
 ·obtain ⟨e,n,ne,nf,d⟩:=I.pin p hp;have nch:p.1∉ch:=fun z=>(hch p.1 z).2.2.2 p hp rfl;exact zAJ (keep p.1 p.2 ne nf nch e n) (free p.1 p.2 nch e n) ne nf d
theorem Inv.un{t':Nat}(I:Inv X pins σ H s)(u:Un X.fs [] H H' s.heap h')(hok:HOk X.prog X.w H' h'):Inv X pins σ H' {s with heap:=h',toks:=t'}:=by obtain ⟨m,⟨o,es,ep,ho,r⟩,_⟩:=id I.loc;obtain ⟨sl,hL⟩:=u.any ho I.free Jo;exact I.step (g':=s.gens) (d':=s.drawn) (ch:=[]) (fun _ z=>nomatch z) (fun b o _ hb _ e n=>u.keep b o e n hb Jo) (fun b o _ hb _ e n=>u.slot b o e n hb Jo) (fun b o _ e n=>u.free b o e n Jo) (fun b o _ e=>u.there b o e Jo) u.tups u.frzs u.tbls (fun m' hm=>by obtain ⟨o',es',ep',ho',r'⟩:=hm;rw [ho] at ho';cases ho';exact zAI _ es' ep' hL r') hok I.bare
theorem Inv.call{g':Array GenState}{t':Nat}{d':Drawn}{ch:List Addr}(I:Inv X pins σ H s)(u:Un (frs X.stack) ch H H' s.heap h')(hok:HOk X.prog X.w H' h')(hg:AllBare g')
  (hch:∀b∈ch,(b∈X.ex\/X.s₀.heap.objs.size<=b)/\b≠X.env.locals/\(∀x c,X.env.cells.lookup x=some c->c≠b)/\∀p∈X.pn++pins,p.1≠b) :
  Inv X pins σ H' {s with heap:=h',gens:=g',drawn:=d',toks:=t'}:=by
 obtain ⟨m,⟨o,es,ep,ho,r⟩,_⟩:=id I.loc;obtain ⟨sl,hL⟩:=u.any ho I.free fun z=>(hch _ z).2.1 rfl;exact I.step (ch:=ch) hch (fun b o hL hb hc e n=>u.keep b o e n (fun z=>(zq5.mp (I.stkSub b z)).elim hL hb) hc) (fun b o _ _ hc e n=>u.any e n hc) (fun b o hc e n=>u.free b o e n hc) (fun b o hc e=>u.there b o e hc) u.tups u.frzs u.tbls (fun m' hm=>by obtain ⟨o',es',ep',ho',r'⟩:=hm;rw [ho] at ho';cases ho';exact zAI _ es' ep' hL r') hok hg
theorem Inv.turned{t':Nat}{it:Addr}(I:Inv X pins σ H s)(k:∀b o,b≠it->s.heap.get? b=some o->h'.get? b=some o)(hn:H it=none)(hL:it≠X.env.locals)
  (h1:it∈X.ex\/X.s₀.heap.objs.size<=it) (h2:∀x c,X.env.cells.lookup x=some c->c≠it) (h3:∀p∈X.pn++pins,p.1≠it):Inv X pins σ H {s with heap:=h',toks:=t'}:=by
 have nit:∀b u,H b=some u->b≠it:=fun b u e z=>by rw [z,hn] at e;cases e
 refine I.step (g':=s.gens) (d':=s.drawn) (ch:=[it]) (fun b hb=>?_) (fun b o _ _ hc e _=>k b o (fun z=>hc (by simp [z])) e) (fun b o _ _ hc e _=>⟨o.slots,k b o (fun z=>hc (by simp [z])) e⟩) (fun _ _ _ _ n=>n)
  (fun b o hc e=>⟨o,k b o (fun z=>hc (by simp [z])) e⟩) (fun _ _ e=>e) (fun _ _ _ e=>e) (fun b ps e=>⟨#[],by rw [e];simp⟩) (fun m hm=>?_) (fun b u e=>?_) I.bare
 ·have e:b=it:=by simpa using hb
  subst e;exact zAG h1 hL h2 h3
 ·obtain ⟨o,es,ep,ho,r⟩:=hm;exact zAI o es ep (k _ o (Ne.symm hL) ho) r
 ·refine (I.hok b u e).stay (fun c v hc q=>k c v ?_ q) (fun _ q=>q) fun _ _ q=>q;rcases hc with z | z
  ·rw [z];exact nit b u e
  ·exact nit c _ z
theorem Inv.tok(I:Inv X pins σ H s)(t:Nat):Inv X pins σ H {s with toks:=t}:=I.un (h':=s.heap) (t':=t) Un.refl I.hok
theorem Inv.kept{t':Nat}(I:Inv X pins σ H s)(k:∀b u,s.heap.get? b=some u->h'.get? b=some u):Inv X pins σ H {s with heap:=h',toks:=t'}:=I.un (Un.kept k) (I.hok.kept k)
theorem Inv.laid{a:Addr}{o:HO}{t':Nat}(I:Inv X pins σ H s)(k:∀b u,s.heap.get? b=some u->h'.get? b=some u)(hp:s.heap.objs.size<=a)(new:ObjOk X.prog X.w (upd H a o) h' a o):
  Inv X pins σ (upd H a o) {s with heap:=h',toks:=t'}:=I.un (Un.laid k hp (I.hok.fresh hp)) (I.hok.laid k hp new)
theorem Inv.write{x e:Addr}{o:HO}{t':Nat}(I:Inv X pins σ H s)(mu:Mut (H x))(he:e=x\/H e=some (.own x))(k:∀b u,b≠e->s.heap.get? b=some u->h'.get? b=some u)(heo:∃u,h'.get? e=some u)
  (new:ObjOk X.prog X.w (upd H x o) h' x o):Inv X pins σ (upd H x o) {s with heap:=h',toks:=t'}:=I.un (Un.write mu he k heo) (I.hok.write mu he k heo new)
theorem Inv.pins_of{pins':List (Addr×Obj)}(I:Inv X pins σ H s)(h:∀p∈pins',s.heap.get? p.1=some p.2/\H p.1=none/\p.1≠X.env.locals/\p.1∉X.fs/\∀v,p.2.data≠.cell v):Inv X pins' σ H s:=
 ⟨I.ok,I.os,I.bare,I.base,I.loc,I.cell,I.free,I.freeC,fun p hp=>(zq15.mp hp).elim (fun z=>I.pin p (l8 _ z)) (h p),I.hok,I.len⟩
theorem pk{N:List Str}(hN:N.Nodup){i j:Nat}{x:Str}(a:N[i]?=some x)(b:N[j]?=some x):i=j:=by obtain ⟨h1,e1⟩:=zq10.mp a;obtain ⟨h2,e2⟩:=zq10.mp b;exact (List.getElem_inj hN).mp (e1.trans e2.symm)
theorem wK{M:Model}{A:Around}{E:Value->Shared->Prop}{i:Nat}{x:Str}{v:V}{u:Value}{Q:Unit->Shared->Prop}(I:Inv X pins σ H s)(hN:X.N.Nodup)(hi:X.N[i]?=some x)(hx:Loc X.env.scope x)(r:RelV v u)
  (h:∀s',Inv X pins (σ.set i (some v)) H s'->(∃a,Heap.SameBut a s.heap s'.heap/\(a=X.env.locals\/X.env.cells.lookup x=some a))->Q () s') (hf:X.fn x=true\/X.env.scope.names.lookup x=some .local:=by first | exact .inl rfl | exact .inr rfl | assumption):wpAny M A (storeName X.env x u) Q E s:=by
 obtain ⟨m,hn,hl⟩:=id I.loc;have hcls:(X.env.scope.kind==.class || (X.env.scope.kind==.module&&X.env.locals != X.env.globals))=false:=by rw [I.ok.kind];rfl
 have hiσ:i<σ.length:=by rw [I.len];exact (zq10.mp hi).1
 have cne:=I.cne;have tracked:∀{a:Addr} {h':Heap},(∃o,s.heap.get? a=some o/\H a=none)->Heap.SameBut a s.heap h'->HOk X.prog X.w H h':=fun {a h'} ha hs b ob e=>by
  obtain ⟨_,_,hfree⟩:=ha;refine (I.hok b ob e).stay (fun c w' hc q=>(hs.2 c ?_).trans q) (fun _ q=>q) fun _ _ q=>q;rintro rfl;rcases hc with rfl | hc
  ·rw [hfree] at e;cases e
  ·rw [hfree] at hc;cases hc
 rcases hx with hk | hk
 ·refine wpAny_storeName_local hk hn (fun h' hn' hs=>?_) hcls;obtain ⟨oL,_,_,hoL,_⟩:=id hn;refine h _ ⟨I.ok,I.os,I.bare,⟨fun b o e n hb hx=>?_,fun b o e n hb hx=>?_,I.base.free,fun b o e hx=>?_,I.base.tups,I.base.frzs,I.base.tbls⟩,zn _ hn' fun j y v' e1 e2 e3=>?_,fun y c e=>?_,I.free,I.freeC,fun p hp=>?_,tracked (zn oL hoL I.free) hs,by simpa using I.len⟩ (zn _ hs (.inl rfl))
  ·exact (hs.2 b (cD (dS (zq7 e) I.ok.above))).trans (I.base.keep b o e n hb hx)
  ·obtain ⟨sl,e1⟩:=I.base.slot b o e n hb hx;exact ⟨sl,(hs.2 b (cD (dS (zq7 e) I.ok.above))).trans e1⟩
  ·obtain ⟨o',e1⟩:=I.base.there b o e hx;exact ⟨o',(hs.2 b (cD (dS (zq7 e) I.ok.above))).trans e1⟩
  ·by_cases hj:j=i
   ·subst hj;rw [hi] at e1;cases e1;rw [AF hiσ] at e2
    cases e2
    exact zn u r (.inl ⟨hk,Jo⟩)
   ·rw [wZ (Ne.symm hj)] at e2;obtain ⟨u',r',q⟩:=hl j y v' e1 e2 e3;refine zn u' r' ?_;rcases q with ⟨k,e⟩ | ⟨k,c,e,z⟩
    ·refine .inl ⟨k,?_⟩;have:y≠x:=fun e=>hj (pk hN e1 (e ▸ hi));simp [this,e]
    ·exact .inr ⟨k,zn c e (z.sameBut hs (cne y c e))⟩
  ·obtain ⟨w',z⟩:=I.cell y c e;exact ⟨w',z.sameBut hs (cne y c e)⟩
  ·obtain ⟨e,n,ne,nf,d⟩:=I.pin p hp;exact zAJ ((hs.2 p.1 ne).trans e) n ne nf d
 ·have hfn:X.fn x=true:=by
   rcases hf with z | z
   ·exact z
   ·rw [z] at hk;cases hk
  obtain ⟨c,hc⟩:=I.ok.has x (.inl hk);obtain ⟨w',z⟩:=I.cell x c hc;refine wpAny_storeName_cell I.ok.kind hk hc z (fun h' hc' hs=>?_);obtain ⟨oc,hoc,hocd⟩:=id z;refine h {s with heap:=h'} ⟨I.ok,I.os,I.bare,⟨fun b o e n hb hx=>?_,fun b o e n hb hx=>?_,I.base.free,fun b o e hx=>?_,I.base.tups,I.base.frzs,I.base.tbls⟩,zn m (hn.sameBut hs (Ne.symm (cne x c hc))) fun j y v' e1 e2 e3=>?_,fun y c' e=>?_,I.free,I.freeC,fun p hp=>?_,tracked (zn oc hoc (I.freeC x c hc)) hs,by simpa using I.len⟩ (zn c hs (.inr hc))
  ·exact (hs.2 b (cD (dS (zq7 e) (I.ok.cab x c hfn hc)))).trans (I.base.keep b o e n hb hx)
  ·obtain ⟨sl,e1⟩:=I.base.slot b o e n hb hx;exact ⟨sl,(hs.2 b (cD (dS (zq7 e) (I.ok.cab x c hfn hc)))).trans e1⟩
  ·obtain ⟨o',e1⟩:=I.base.there b o e hx;exact ⟨o',(hs.2 b (cD (dS (zq7 e) (I.ok.cab x c hfn hc)))).trans e1⟩
  ·by_cases hj:j=i
   ·subst hj;rw [hi] at e1;cases e1;rw [AF hiσ] at e2
    cases e2
    exact zn u r (.inr ⟨.inl hk,zn c hc hc'⟩)
   ·rw [wZ (Ne.symm hj)] at e2;obtain ⟨u',r',q⟩:=hl j y v' e1 e2 e3;refine zn u' r' ?_;rcases q with q | ⟨k,c',e,z'⟩
    ·exact .inl q
    ·refine .inr ⟨k,zn c' e (z'.sameBut hs ?_)⟩;rintro rfl;exact hj (pk hN e1 (I.ok.inj _ _ _ e hc ▸ hi))
  ·by_cases hcc:c'=c
   ·subst hcc;exact ⟨_,hc'⟩
   ·obtain ⟨w2,z2⟩:=I.cell y c' e;exact ⟨w2,z2.sameBut hs hcc⟩
  ·obtain ⟨e,n,ne,nf,d⟩:=I.pin p hp;refine zAJ ((hs.2 p.1 ?_).trans e) n ne nf d;intro q;rw [q,hoc] at e;have q':oc=p.2:=Option.some.inj e;exact d w' (by rw [<- q'];exact hocd)
theorem qu{M:Model}{A:Around}{E:Value->Shared->Prop}{i:Nat}{x:Str}{v:V}{u:Value}{Q:Unit->Shared->Prop}(I:Inv X pins σ H s)(hN:X.N.Nodup)(hi:X.N[i]?=some x)(hx:Loc X.env.scope x)(r:RelV v u)
  (h:∀s',Inv X pins (σ.set i (some v)) H s'->Q () s') (hf:X.fn x=true\/X.env.scope.names.lookup x=some .local:=by first | exact .inl rfl | exact .inr rfl | assumption):wpAny M A (storeName X.env x u) Q E s:=
 wK I hN hi hx r (fun s' I' _=>h s' I') hf
theorem Inv.call'{s':Shared}{ch:List Addr}(I:Inv X pins σ H s)(ho:s'.os=s.os)(u:Un (frs X.stack) ch H H' s.heap s'.heap)(hok:HOk X.prog X.w H' s'.heap)(hg:AllBare s'.gens)
  (hch:∀b∈ch,(b∈X.ex\/X.s₀.heap.objs.size<=b)/\b≠X.env.locals/\(∀x c,X.env.cells.lookup x=some c->c≠b)/\∀p∈X.pn++pins,p.1≠b):Inv X pins σ H' s':=by
 obtain ⟨h',g',d',t',o'⟩:=s';have e:o'=s.os:=ho;subst e;exact I.call (g':=g') (t':=t') (d':=d') u hok hg hch
end
abbrev XK:=Value->Option Addr->Hp->Prop
abbrev St:=List (Option V)
abbrev VK:=V->Hp->Prop
abbrev TE:=St->Hp->VK->Prop
abbrev TT:=St->Hp->(Bool->Hp->Prop)->Prop
abbrev TA:=St->Hp->(List V->Hp->Prop)->Prop
structure dm where
 nx:St->Hp->Prop
 rt:VK
 bk:St->Hp->Prop:=fun _ _=>False
 ct:St->Hp->Prop:=fun _ _=>False
abbrev TS:=dm->St->Hp->Prop
def EP(X:Cx)(pins:List (Addr×Obj))(σ:St)(Q:VK)(u:Value)(s':Shared):Prop:=∃v H',Inv X pins σ H' s'/\RelV v u/\Q v H'
def TP(X:Cx)(pins:List (Addr×Obj))(σ:St)(Q:Bool->Hp->Prop)(b:Bool)(s':Shared):Prop:=∃H',Inv X pins σ H' s'/\Q b H'
def AP(X:Cx)(pins:List (Addr×Obj))(σ:St)(Q:List V->Hp->Prop)(us:List Value)(s':Shared):Prop:=∃vs H',Inv X pins σ H' s'/\Vals vs us/\Q vs H'
def SP(X:Cx)(pins:List (Addr×Obj))(D:dm)(f:Flow)(s':Shared):Prop:=
 match f with
 | .next=>∃σ' H',Inv X pins σ' H' s'/\D.nx σ' H'
 | .brk=>∃σ' H',Inv X pins σ' H' s'/\D.bk σ' H'
 | .cont=>∃σ' H',Inv X pins σ' H' s'/\D.ct σ' H'
 | .ret u=>∃v σ' H',Inv X pins σ' H' s'/\RelV v u/\D.rt v H'
def PE(X:Cx)(e:Expr)(t:TE):Prop:=
 ∀(pins:List (Addr×Obj)) (s:Shared) (σ:St) (H:Hp) (Q:VK),Inv X pins σ H s->t σ H Q->wpAny (model X.prog X.w) X.A (eval e X.env) (EP X pins σ Q) X.xe s
def PT(X:Cx)(e:Expr)(t:TT):Prop:=
 ∀(pins:List (Addr×Obj)) (s:Shared) (σ:St) (H:Hp) (Q:Bool->Hp->Prop),Inv X pins σ H s->t σ H Q->wpAny (model X.prog X.w) X.A (isTrue e X.env (eval e X.env)) (TP X pins σ Q) X.xe s
def PW(X:Cx)(e:Expr)(t:TT):Prop:=
 ∀(whole:Sem Value)(pins:List (Addr×Obj)) (s:Shared) (σ:St) (H:Hp) (Q:Bool->Hp->Prop),Inv X pins σ H s->t σ H Q->wpAny (model X.prog X.w) X.A (isTrue e X.env whole) (TP X pins σ Q) X.xe s
theorem PW.pt{X:Cx}{e:Expr}{t:TT}(h:PW X e t):PT X e t:=h _
def PA(X:Cx)(es:List Expr)(t:TA):Prop:=
 ∀(pos:Pos)(pins:List (Addr×Obj)) (s:Shared) (σ:St) (H:Hp) (Q:List V->Hp->Prop),Inv X pins σ H s->t σ H Q->wpAny (model X.prog X.w) X.A (spliced (backTo pos (starEach es X.env))) (AP X pins σ Q) X.xe s
def PS(X:Cx)(st:Stmt)(t:TS):Prop:=
 ∀(pins:List (Addr×Obj)) (s:Shared) (σ:St) (H:Hp) (D:dm),Inv X pins σ H s->t D σ H->wpAny (model X.prog X.w) X.A (exec st X.env) (SP X pins D) X.xe s
def PSs(X:Cx)(st:List Stmt)(t:TS):Prop:=
 ∀(pins:List (Addr×Obj)) (s:Shared) (σ:St) (H:Hp) (D:dm),Inv X pins σ H s->t D σ H->wpAny (model X.prog X.w) X.A (execs st X.env) (SP X pins D) X.xe s
theorem thn{α:Type}{t:Sem α}{Q Q':α->Shared->Prop}{M:Model}{A:Around}{E:Value->Shared->Prop}{s:Shared}(h:wpAny M A t Q E s)(hQ:∀a s,Q a s->Q' a s):wpAny M A t Q' E s:=wpAny_mono h hQ fun _ _ x=>x
end L2
namespace L2
variable {u:Value} {x:Str}
section
variable {X:Cx}
theorem bin{a b:Expr}{ta tb:TE}(ha:PE X a ta)(hb:PE X b tb){pins:List (Addr×Obj)}{s:Shared}{σ:St}{H:Hp}{R:V->V->Hp->Prop}(I:Inv X pins σ H s)(h:ta σ H fun x H1=>tb σ H1 fun y H2=>R x y H2)
  {α:Type} {Q:α->Shared->Prop} {f:Value->Value->Sem α}
  (hf:∀v u s2 x y H2,Inv X pins σ H2 s2->RelV x v->RelV y u->R x y H2->wpAny (model X.prog X.w) X.A (f v u) Q X.xe s2) :
  wpAny (model X.prog X.w) X.A (eval a X.env) (fun v s₁=>wpAny (model X.prog X.w) X.A (eval b X.env) (fun u s₂=>wpAny (model X.prog X.w) X.A (f v u) Q X.xe s₂) X.xe s₁) X.xe s:=by
 refine thn (ha pins s σ H _ I h) fun v s1 hhx=>?_;obtain ⟨x,H1,I1,r1,q1⟩:=hhx;refine thn (hb pins s1 σ H1 _ I1 q1) fun u s2 hhx=>?_;obtain ⟨y,H2,I2,r2,q2⟩:=hhx;exact hf v u s2 x y H2 I2 r1 r2 q2
def EZ(i:Nat):TE:=fun σ H Q=>∃v,σ[i]?=some (some v)/\Q v H
def tC(v:V):TE:=fun _ H Q=>Q v H
theorem DU{i:Nat}{pos:Pos}(hN:X.N[i]?=some x)(hv:Vis X.env.scope x)(hd:(x==("__debug__":Str))=false:=by decide) (hcd:(x==("__classdict__":Str))=false:=by decide):PE X (.Name x pos) (EZ i):=by
 intro pins s σ H Q I h;obtain ⟨v,e,h⟩:=h;obtain ⟨m,hn,hl⟩:=I.loc;obtain ⟨u,r,l⟩:=hl i x v hN e hv;have fin:EP X pins σ Q u s:=zAA v H I r h
 rcases l with ⟨hk,hm⟩ | ⟨hk,c,hc,hcell⟩
 ·exact wpAny_Name (wpAny_loadName_local I.ok.kind hk hn hm fin) hd
 ·rcases hk with hk | hk
  ·exact wpAny_Name (wpAny_loadName_cell I.ok.kind hk hc hcell fin) hd
  ·exact wpAny_Name (wpAny_loadName_free I.ok.kind hk hc hcell fin hcd) hd
theorem yA{i j pos}:PE X (.Constant (.int i) j pos) (tC (.int i)):=fun _ _ _ H _ I h=>wpAny_Constant_int (zAA (.int i) H (I.tok _) ⟨_,rfl⟩ h)
theorem CJ{b j pos}:PE X (.Constant (.bool b) j pos) (tC (.bl b)):=fun _ _ _ H _ I h=>Constant_bool (zAA (.bl b) H I rfl h)
theorem yD{j pos}:PE X (.Constant .none j pos) (tC .non):=fun _ _ _ H _ I h=>Constant_none (zAA .non H I rfl h)
theorem yE{x j pos}:PE X (.Constant (.str x) j pos) (tC (.str x)):=fun _ _ _ H _ I h=>Calls.Constant_str (zAA (.str x) H (I.tok _) ⟨_,rfl⟩ h)
def Gl(X:Cx)(x:Str):Prop:=X.env.kindOf x=some .globalImplicit
theorem iq{E:Value->Shared->Prop}{pins:List (Addr×Obj)}{s:Shared}{σ:St}{H:Hp}{pos:Pos}{Q:Value->Shared->Prop}(I:Inv X pins σ H s)(hg:Gl X x)(hm:X.mg x=some u)(h:Q u s)
 (hd:(x==("__debug__":Str))=false:=by decide):wpAny (model X.prog X.w) X.A (eval (.Name x pos) X.env) Q E s:=
 Calls.Name_function_global I.ok.kind hg (Calls.loadGlobal_global (by rw [I.ok.glob];exact I.mod.glob.keeps I.bk) hm h) hd
theorem dH{E:Value->Shared->Prop}{pins:List (Addr×Obj)}{s:Shared}{σ:St}{H:Hp}{pos:Pos}{Q:Value->Shared->Prop}(I:Inv X pins σ H s)(hg:Gl X x)(hm:X.mg x=none)(hv:bootBuiltins x=some u)(h:Q u s)
 (hn:x≠"__name__":=by decide) (hd:(x==("__debug__":Str))=false:=by decide):wpAny (model X.prog X.w) X.A (eval (.Name x pos) X.env) Q E s:=by
 obtain ⟨mb,h1,h2⟩:=I.mod.blt;exact Calls.Name_function_global I.ok.kind hg (Calls.loadGlobal_builtin (by rw [I.ok.glob];exact I.mod.glob.keeps I.bk) hm (by rw [I.ok.blt];exact h1.keeps I.bk) ((h2 x hn).trans hv) h) hd
theorem BD{v:V}{pos:Pos}(hg:Gl X x)(hm:X.mg x=some u)(r:RelV v u)(hd:(x==("__debug__":Str))=false:=by decide):PE X (.Name x pos) (tC v):=
 fun _ _ _ H _ I h=>iq I hg hm (zAA v H I r h) hd
theorem BB{v:V}{pos:Pos}(hg:Gl X x)(hm:X.mg x=none)(hv:bootBuiltins x=some u)(r:RelV v u)(hn:x≠"__name__":=by decide) (hd:(x==("__debug__":Str))=false:=by decide):PE X (.Name x pos) (tC v):=
 fun _ _ _ H _ I h=>dH I hg hm hv (zAA v H I r h) hn hd
variable {a b:Expr} {ta tb:TE} {pos:Pos}
def PC(X:Cx)(op:CmpOp)(a b:Expr)(t:TE):Prop:=
 ∀(pins:List (Addr×Obj)) (s:Shared) (σ:St) (H:Hp) (Q:VK),Inv X pins σ H s->t σ H Q->
  wpAny (model X.prog X.w) X.A (eval a X.env) (fun v s₁=>wpAny (model X.prog X.w) X.A (eval b X.env) (fun u s₂=>wpAny (model X.prog X.w) X.A (compareOp op v u) (EP X pins σ Q) X.xe s₂) X.xe s₁) X.xe s
theorem xY(b:Expr){op:CmpOp}(h:op≠.In)(h2:op≠.NotIn):behindInMarks op b=false:=by
 have e1:(op==CmpOp.In)=false:=by cases op<;>first | rfl | exact absurd rfl h
 have e2:(op==CmpOp.NotIn)=false:=by cases op<;>first | rfl | exact absurd rfl h2
 cases b<;>simp [behindInMarks,e1,e2]
def tB(t:TE):TT:=fun σ H Q=>t σ H fun x H1=>∃c,x=.bl c/\Q c H1
variable {tA tB':TT} {fQ:List Expr}
def Ie(t u:TT):TT:=fun σ H Q=>t σ H fun c H1=>if c=true then u σ H1 Q else Q false H1
def tOr(t u:TT):TT:=fun σ H Q=>t σ H fun c H1=>if c=true then Q true H1 else u σ H1 Q
def Ij(t:TT):TT:=fun σ H Q=>t σ H fun c H1=>Q (!c) H1
def CV(ta tb:TE):TE:=fun σ H Q=>ta σ H fun x H1=>∃c,x=.bl c/\if c=true then tb σ H1 Q else Q (.bl false) H1
def Ik(ta tb:TE):TE:=fun σ H Q=>ta σ H fun x H1=>∃c,x=.bl c/\if c=true then Q (.bl true) H1 else tb σ H1 Q
def D0(ta:TE):TE:=fun σ H Q=>ta σ H fun x H1=>∃c,x=.bl c/\Q (.bl (!c)) H1
def tIf(t:TT)(ta tb:TE):TE:=fun σ H Q=>t σ H fun c H1=>if c=true then ta σ H1 Q else tb σ H1 Q
end
end L2
namespace L2
def SqL(K:W.Frag)(H:Hp)(a:Addr)(xs:List V):Prop:=
 Rd H a (.lst xs)\/
  ∃(o:Obj)(its:Array Value)(n:Nat),K.lookup a=some o/\o.cls=.type "list"/\o.dict=none/\o.data=.seq its n/\its.size<=sizeLine/\Vals xs its.toList
def SqT(K:W.Frag)(H:Hp)(a:Addr)(xs:List V):Prop:=
 Rd H a (.tup xs)\/
  ∃(o:Obj)(its:Array Value)(n:Nat),K.lookup a=some o/\o.cls=.type "tuple"/\o.data=.seq its n/\its.size<=sizeLine/\Vals xs its.toList
def Iv:Value->Option V
 | .none=>some .non
 | .bool b=>some (.bl b)
 | .int i _=>some (.int i)
 | .str x _=>some (.str x)
 | .bytes b _=>some (.byt b)
 | .float b _=>some (.flt b)
 | .ref a=>some (.ref a)
 | .type n=>some (.ty n)
 |_=>none
theorem RelV.abs{x:V}{u:Value}(r:RelV x u):Iv u=some x:=by
 cases x with
 |non=>cases r;rfl
 |bl _=>cases r;rfl
 |int _=>obtain ⟨t,rfl⟩:=r;rfl
 |str _=>obtain ⟨t,rfl⟩:=r;rfl
 |byt _=>obtain ⟨t,rfl⟩:=r;rfl
 |flt _=>obtain ⟨t,rfl⟩:=r;rfl
 |ref _=>cases r;rfl
 |ty _=>cases r;rfl
theorem RelV.inj{x y:V}{u:Value}(r:RelV x u)(q:RelV y u):x=y:=Option.some.inj (r.abs.symm.trans q.abs)
theorem Vals.inj:∀{xs ys:List V} {us:List Value},Vals xs us->Vals ys us->xs=ys
 |_,_,_,.nil,.nil=>rfl
 |_,_,_,.cons r t,.cons r' t'=>by rw [r.inj r',Vals.inj t t']
section
variable {X:Cx} {pins:List (Addr×Obj)} {σ:St} {H:Hp} {s:Shared} {a:Addr} {xs ys:List V}
theorem SqL.of{K:W.Frag}(h:H a=some (.lst xs)):SqL K H a xs:=.inl (.inl h)
theorem SqT.of{K:W.Frag}(h:H a=some (.tup xs)):SqT K H a xs:=.inl (.inl h)
theorem Inv.list(I:Inv X pins σ H s)(h:SqL X.K H a xs):∃its:List Value,Vals xs its/\PlainL s.heap a its.toArray/\xs.length<=sizeLine:=by
 rcases h with h | ⟨o,its,n,hk,hc,hd,hs,hz,r⟩
 ·obtain ⟨z,its,n,r,e⟩:=h.ok I.hok;exact zAC its r (zAE _ n e rfl rfl rfl) z
 ·refine zAC its.toList r (zAE o n (I.kIn a o hk) hc hd (by simpa using hs)) ?_;have e:=r.length;simp only [Array.length_toList] at e;omega
theorem Inv.tuple(I:Inv X pins σ H s)(h:SqT X.K H a xs):∃its:List Value,Vals xs its/\IsTup s.heap a its.toArray/\xs.length<=sizeLine:=by
 rcases h with h | ⟨o,its,n,hk,hc,hs,hz,r⟩
 ·obtain ⟨z,its,r,p⟩:=h.ok I.hok;exact zAC its r p z
 ·refine zAC its.toList r (zAC o (I.kIn a o hk) hc ⟨n,by simpa using hs⟩) ?_;have e:=r.length;simp only [Array.length_toList] at e;omega
theorem Inv.list_inj(I:Inv X pins σ H s)(h:SqL X.K H a xs)(h':SqL X.K H a ys):xs=ys:=by
 obtain ⟨its,r,⟨o,n,e,_,_,d⟩,_⟩:=I.list h;obtain ⟨its',r',⟨o',n',e',_,_,d'⟩,_⟩:=I.list h';rw [e] at e';cases e';rw [d] at d';injection d' with d1 _;have:its=its':=by simpa using congrArg Array.toList d1
 subst this;exact r.inj r'
theorem Inv.tuple_inj(I:Inv X pins σ H s)(h:SqT X.K H a xs)(h':SqT X.K H a ys):xs=ys:=by
 obtain ⟨its,r,⟨o,e,_,n,d⟩,_⟩:=I.tuple h;obtain ⟨its',r',⟨o',e',_,n',d'⟩,_⟩:=I.tuple h';rw [e] at e';cases e';rw [d] at d';injection d' with d1 _;have:its=its':=by simpa using congrArg Array.toList d1
 subst this;exact r.inj r'
end
abbrev Cx.wish (X:Cx) (E:Value->Shared->Prop):Cx:={X with xe:=E}
abbrev Cx.nox (X:Cx):Cx:=X.wish fun _ _=>False
theorem Cx.Ok.wish{X:Cx}(ok:X.Ok)(E:Value->Shared->Prop):(X.wish E).Ok:=
 ⟨ok.mod,ok.kind,ok.glob,ok.blt,ok.above,ok.inj,ok.has,ok.cab,ok.hd,ok.frames,ok.stk,ok.exf,ok.bs,ok.bsz,ok.noex,ok.exfs,ok.funs,ok.frf⟩
theorem Cx.Ok.unwish{X:Cx}{E:Value->Shared->Prop}(ok:(X.wish E).Ok):X.Ok:=
 ⟨ok.mod,ok.kind,ok.glob,ok.blt,ok.above,ok.inj,ok.has,ok.cab,ok.hd,ok.frames,ok.stk,ok.exf,ok.bs,ok.bsz,ok.noex,ok.exfs,ok.funs,ok.frf⟩
section
variable {X:Cx} {pins:List (Addr×Obj)} {σ:St} {H:Hp} {s:Shared} {E:Value->Shared->Prop}
theorem Inv.wish(I:Inv X pins σ H s)(E:Value->Shared->Prop):Inv (X.wish E) pins σ H s:=⟨I.ok.wish E,I.os,I.bare,I.base,I.loc,I.cell,I.free,I.freeC,I.pin,I.hok,I.len⟩
theorem Inv.unwish(I:Inv (X.wish E) pins σ H s):Inv X pins σ H s:=⟨I.ok.unwish,I.os,I.bare,I.base,I.loc,I.cell,I.free,I.freeC,I.pin,I.hok,I.len⟩
theorem SP.unwish{D:dm}{f:Flow}{s':Shared}(h:SP (X.wish E) pins D f s'):SP X pins D f s':=by
 cases f with
 |next=>obtain ⟨σ',H',I,q⟩:=h;exact zAD σ' H' I.unwish q
 |brk=>obtain ⟨σ',H',I,q⟩:=h;exact zAD σ' H' I.unwish q
 |cont=>obtain ⟨σ',H',I,q⟩:=h;exact zAD σ' H' I.unwish q
 |ret u=>obtain ⟨v,σ',H',I,r,q⟩:=h;exact zAO v σ' H' I.unwish r q
theorem PSs.nox{st:List Stmt}{t:TS}(h:PSs X.nox st t):PSs X st t:=fun pins s σ H D I hw=>wpAny_mono (h pins s σ H D (I.wish _) hw) (fun _ _ q=>q.unwish) fun _ _ z=>False.elim z
end
section
variable {X:Cx} {st:Stmt} {fQ:List Stmt} {t u:TS} {e:Expr} {te:TE} {pos:Pos}
def CZ:TS:=fun D σ H=>D.nx σ H
def EY(t u:TS):TS:=fun D σ H=>t {D with nx:=u D} σ H
theorem Inv.quiet{pins:List (Addr×Obj)}{σ:St}{H:Hp}{s:Shared}(I:Inv X pins σ H s):interactive X.env=false:=by simp [interactive,I.ok.kind]
def CY(te:TE):TS:=fun D σ H=>te σ H fun _ H1=>D.nx σ H1
def zQ(te:TE):TS:=fun D σ H=>te σ H D.rt
def EW(c:TT)(t u:TS):TS:=fun D σ H=>c σ H fun b H1=>if b=true then t D σ H1 else u D σ H1
end
abbrev TG:=V->St->Hp->(St->Hp->Prop)->Prop
abbrev TGs:=List V->St->Hp->(St->Hp->Prop)->Prop
def PG(X:Cx)(target:Expr)(t:TG):Prop:=
 ∀(pins:List (Addr×Obj)) (s:Shared) (σ:St) (H:Hp) (v:V) (u:Value) (Q:St->Hp->Prop),Inv X pins σ H s->RelV v u->t v σ H Q->
  wpAny (model X.prog X.w) X.A (assign target X.env u) (fun _ s'=>∃σ' H',Inv X pins σ' H' s'/\Q σ' H') X.xe s
def PGs(X:Cx)(ts:List Expr)(t:TGs):Prop:=
 ∀(pins:List (Addr×Obj)) (s:Shared) (σ:St) (H:Hp) (vs:List V) (us:List Value) (Q:St->Hp->Prop),Inv X pins σ H s->Vals vs us->t vs σ H Q->
  wpAny (model X.prog X.w) X.A (assignInOrder ((assignEach ts X.env).map (·.2)) us) (fun _ s'=>∃σ' H',Inv X pins σ' H' s'/\Q σ' H') X.xe s
abbrev x8:=V->V->V->Hp->(Hp->Prop)->Prop
def Dd(X:Cx)(t:x8):Prop:=
 ∀(pins:List (Addr×Obj)) (s:Shared) (σ:St) (H:Hp) (o i v:V) (ov iv u:Value) (Q:Hp->Prop),Inv X pins σ H s->RelV o ov->RelV i iv->RelV v u->t o i v H Q->
  wpAny (model X.prog X.w) X.A (setItem ov iv u) (fun _ s'=>∃H',Inv X pins σ H' s'/\Q H') X.xe s
section
variable {X:Cx} {pos:Pos}
def c6(i:Nat):TG:=fun v σ H Q=>Q (σ.set i (some v)) H
theorem tZ{i:Nat}{x:Str}(hN:X.N.Nodup)(hi:X.N[i]?=some x)(hx:Loc X.env.scope x)(hf:X.fn x=true\/X.env.scope.names.lookup x=some .local:=by first | exact .inl rfl | exact .inr rfl | assumption):PG X (.Name x pos) (c6 i):=by intro pins s σ H v u Q I r h;exact wpAny_assign_Name (qu I hN hi hx r (fun s' I'=>zAD _ H I' h) hf)
def Fg:TGs:=fun vs σ H Q=>vs=[]/\Q σ H
def CC(t:TG)(u:TGs):TGs:=fun vs σ H Q=>∃v r,vs=v::r/\t v σ H fun σ' H'=>u r σ' H' Q
def Fh(K:W.Frag)(n:Nat)(t:TGs):TG:=fun v σ H Q=>∃a xs,v=.ref a/\SqT K H a xs/\xs.length=n/\t xs σ H Q
def Do(to ti:TE)(t:x8):TG:=fun v σ H Q=>to σ H fun o H1=>ti σ H1 fun i H2=>t o i v H2 fun H3=>Q σ H3
theorem DV{o i:Expr}{to ti:TE}{t:x8}(ho:PE X o to)(hi:PE X i ti)(hs:Dd X t)
  (ha:∀v,assign (.Subscript o i pos) X.env v=(do
   let ov <- holding [v] (eval o X.env)
   let iv <- holding [v,ov] (eval i X.env)
   standAt pos
   holding [v,ov,iv] (setItem ov iv v)
   release [v,ov,iv] []):=by intro _;rfl):PG X (.Subscript o i pos) (Do to ti t):=by
 intro pins s σ H v u Q I r h;rw [ha];refine wpAny_bind (wpAny_holding (thn (ho pins s σ H _ I h) fun ov s1 hhx=>?_));obtain ⟨x,H1,I1,r1,q1⟩:=hhx;refine wpAny_bind (wpAny_holding (thn (hi pins s1 σ H1 _ I1 q1) fun iv s2 hhx=>?_));obtain ⟨y,H2,I2,r2,q2⟩:=hhx;refine wpAny_bind (wpAny_standAt (wpAny_bind (wpAny_holding (thn (hs pins s2 σ H2 x y v ov iv u _ I2 r1 r2 r q2) fun _ s3 hhx=>?_))));obtain ⟨H3,I3,q3⟩:=hhx;exact wpAny_release (zAD σ H3 I3 q3)
def Cd(te:TE)(g:TG):TS:=fun D σ H=>te σ H fun x H1=>g x σ H1 D.nx
theorem E1{i:Nat}{x:Str}{e:Expr}{te:TE}{pos':Pos}(hN:X.N.Nodup)(hi:X.N[i]?=some x)(hx:Loc X.env.scope x)(he:PE X e te)(hs:swapsWith e (some (.Name x pos')) pos.line X.env=pure false:=by rfl)(hf:X.fn x=true\/X.env.scope.names.lookup x=some .local:=by first | exact .inl rfl | exact .inr rfl | assumption):
  PS X (.Assign [.Name x pos'] e pos) (Cd te (c6 i)):=by
 intro pins s σ H D I h;refine wpAny_Assign_Name (thn (he pins s σ H _ I h) fun v s1 hhx=>?_) hs;obtain ⟨y,H1,I1,r1,q1⟩:=hhx;exact qu I1 hN hi hx r1 (fun s2 I2=>zAD _ H1 I2 q1) hf
end
section
variable {X:Cx} {pos:Pos}
def zR(c:TT)(tb:TS):TS:=fun D σ H=>∃W:Nat->St->Hp->Prop,(∃m,W m σ H)/\∀m σ H,W m σ H->
 c σ H fun b H1=>if b=true then ∃N:St->Hp->Prop,(∀σ' H',N σ' H'->∃m',m'<m/\W m' σ' H')/\tb {D with nx:=N,ct:=N,bk:=D.nx} σ H1 else D.nx σ H1
end
structure It where
 go:Nat->Hp->Prop
 yld:Nat->Hp->V->Hp->Prop
 stop:Nat->Hp->Prop
def jl(X:Cx)(pins:List (Addr×Obj))(H:Hp)(b:Addr):Prop:=
 H b=none/\b≠X.env.locals/\b∉X.fs/\(b∈X.ex\/X.s₀.heap.objs.size<=b)/\(∀x c,X.env.cells.lookup x=some c->c≠b)/\∀p∈X.pn++pins,p.1≠b
theorem Inv.fpOk{X:Cx}{pins:List (Addr×Obj)}{σ:St}{H H':Hp}{s:Shared}{b:Addr}(I:Inv X pins σ H s)(hb:s.heap.objs.size<=b)(hn:H' b=none):jl X pins H' b:=by
 refine zAQ hn (lh (dS I.lt hb)) (I.nofs hb) (.inr (cR I.sz hb)) (fun x c e z=>?_) fun p hp z=>?_
 ·obtain ⟨v,q⟩:=I.cell x c e;exact absurd (dS q.lt (by rw [z];exact hb)) (nJ _)
 ·exact absurd (dS (zq7 (I.pin p hp).1) (by rw [z];exact hb)) (nJ _)
structure jJ(P:Program)(w:World)(K:W.Frag)(tg:Expr)(J:It)(fp:List Addr)(it:Addr)(tn:Nat->Heap->Prop):Prop where
 mem:it∈fp
 obj:∀i h,tn i h->∀b∈fp,∃o,h.get? b=some o/\∀v,o.data≠.cell v
 keep:∀i h h',tn i h->(∀b∈fp,∀o,h.get? b=some o->h'.get? b=some o)->tn i h'
 item:∀(X:Cx),X.prog=P->X.w=w->X.K=K->X.calm=true->∀(i:Nat)(pins:List (Addr×Obj)) (s:Shared) (σ:St) (H:Hp) (E:Value->Shared->Prop),Inv X pins σ H s->(∀b∈fp,jl X pins H b)->tn i s.heap->J.go i H->
  wpAny (model P w) X.A (pyNext (.ref it)) (fun r s1=>∃u,r=some u/\
   wpAny (model P w) X.A (letOwnedTupleGo tg (.ref it) u) (fun _ s2=>∃x H',Inv X pins σ H' s2/\RelV x u/\J.yld i H x H'/\tn (i+1) s2.heap/\∀b∈fp,H' b=none) E s1) E s
 done:∀(X:Cx),X.prog=P->X.w=w->X.K=K->X.calm=true->∀(i:Nat)(pins:List (Addr×Obj)) (s:Shared) (σ:St) (H:Hp) (E:Value->Shared->Prop),Inv X pins σ H s->(∀b∈fp,jl X pins H b)->tn i s.heap->J.stop i H->
  wpAny (model P w) X.A (pyNext (.ref it)) (fun r s1=>r=none/\Inv X pins σ H s1) E s
 self:∀(A:Around)(i:Nat)(s:Shared)(Q:Value->Shared->Prop)(E:Value->Shared->Prop),tn i s.heap->Q (.ref it) s->wpAny (model P w) A (pyIter (.ref it)) Q E s
abbrev TI:=St->Hp->(It->Hp->Prop)->Prop
variable {P:Program}
def PIE(X:Cx)(pins:List (Addr×Obj))(σ:St)(tg:Expr)(R:It->Hp->Prop)(itv:Value)(s2:Shared):Prop:=
 ∃(it:Addr)(fp:List Addr)(tn:Nat->Heap->Prop)(J:It)(H':Hp),itv=.ref it/\Inv X pins σ H' s2/\jJ X.prog X.w X.K tg J fp it tn/\tn 0 s2.heap/\(∀b∈fp,jl X pins H' b)/\R J H'
def PI(X:Cx)(tg iter:Expr)(wi:TI):Prop:=
 ∀(pins:List (Addr×Obj)) (s:Shared) (σ:St) (H:Hp) (R:It->Hp->Prop),Inv X pins σ H s->wi σ H R->
  wpAny (model X.prog X.w) X.A (eval iter X.env) (fun v s1=>wpAny (model X.prog X.w) X.A (pyIter v) (PIE X pins σ tg R) X.xe s1) X.xe s
theorem oO{M:Model}{A:Around}{E:Value->Shared->Prop}{s:Shared}{tg:Expr}{it:Addr}{u:Value}{o:Obj}{n:String}{vs:Array Value}{Q:Unit->Shared->Prop}(ho:s.heap.get? it=some o)(hc:o.cls=.type n)(hd:o.data=.fields vs)
 (hn:["enumerate","zip","dict_itemiterator","dict_reverseitemiterator","odict_iterator","itertools.zip_longest","itertools.pairwise"].contains n=false) (hQ:Q () s):wpAny M A (letOwnedTupleGo tg (.ref it) u) Q E s:=by
  unfold letOwnedTupleGo
  cases tg<;>first
    |exact wpAny_pure hQ
    | (cases u<;>first
        |exact wpAny_pure hQ
        | (refine wpAny_bind (wpAny_load ho ?_)
           rw [hc,hd];show wpAny M A (if (["enumerate","zip","dict_itemiterator","dict_reverseitemiterator","odict_iterator","itertools.zip_longest","itertools.pairwise"].contains n&&vs[0]?==some (rawInt _))=true then _ else _) Q E s;rw [if_neg (by intro h;rw [hn,Ac] at h;cases h)];exact wpAny_pure hQ))
def Itl(K:W.Frag)(a:Addr):It:=
 ⟨fun i H=>∃xs x,SqL K H a xs/\xs[i]?=some x,fun i H x H'=>H'=H/\∀xs,SqL K H a xs->xs[i]?=some x,fun i H=>∃xs,SqL K H a xs/\xs.length<=i⟩
def Itt(K:W.Frag)(a:Addr):It:=
 ⟨fun i H=>∃xs x,SqT K H a xs/\xs[i]?=some x,fun i H x H'=>H'=H/\∀xs,SqT K H a xs->xs[i]?=some x,fun i H=>∃xs,SqT K H a xs/\xs.length<=i⟩
def Itr(lo:Int)(n:Nat):It:=⟨fun i _=>i<n,fun i H x H'=>H'=H/\x=.int (lo+i),fun i _=>n<=i⟩
theorem wQ{w:World}{K:W.Frag}{tg:Expr}(a it:Addr):jJ P w K tg (Itl K a) [it] it (fun i h=>h.IsListIter it a i) where
 mem:=by simp
 obj:=fun i h st b hb=>by
  have e:b=it:=by simpa using hb
  subst e;obtain ⟨o,e,c,d⟩:=st;exact zn o e fun v z=>by rw [d] at z;cases z
 keep:=fun i h h' st k=>st.at fun o e=>k it Jo o e
 item:=by intro X hP hw hK hc i pins s σ H E I hf st hg;subst hP hw hK;obtain ⟨xs,x,hq,hx⟩:=hg;obtain ⟨its,rv,p,hz⟩:=I.list hq;obtain ⟨u,hu,ru⟩:=rv.get hx;obtain ⟨f0,f1,f2,f3,f4,f5⟩:=hf it Jo;refine wpAny_pyNext_list_item st p.isList (x:=u) (by simpa using hu) fun h' st' sb=>?_;have I1:Inv X pins σ H {s with heap:=h'}:=I.turned (t':=s.toks) (fun b o hb e=>(sb.2 b hb).trans e) f0 f1 f3 f4 f5;obtain ⟨o,e,c,d⟩:=id st';exact zn u rfl (oO (s:={s with heap:=h'}) e c d Jm (zAS x H I1 ru ⟨rfl,fun ys hy=>by rw [I.list_inj hy hq];exact hx⟩ st' fun b hb=>(hf b hb).1))
 done:=by intro X hP hw hK hc i pins s σ H E I hf st hg;subst hP hw hK;obtain ⟨xs,hq,hx⟩:=hg;obtain ⟨its,rv,p,hz⟩:=I.list hq;obtain ⟨f0,f1,f2,f3,f4,f5⟩:=hf it Jo;have hl:=rv.length;exact wpAny_pyNext_list_end (I.ok.hd hc) st p.isList (by simp;omega) fun h' eb=>⟨rfl,I.turned (t':=s.toks) (fun b o hb e=>eb b o hb e) f0 f1 f3 f4 f5⟩
 self:=fun _ _ _ _ _ st h=>wpAny_pyIter_listiter st h
theorem se{w:World}{K:W.Frag}{tg:Expr}(a it:Addr):jJ P w K tg (Itt K a) [it] it (fun i h=>h.IsTupleIter it a i) where
 mem:=by simp
 obj:=fun i h st b hb=>by
  have e:b=it:=by simpa using hb
  subst e;obtain ⟨o,e,c,d⟩:=st;exact zn o e fun v z=>by rw [d] at z;cases z
 keep:=fun i h h' st k=>st.at fun o e=>k it Jo o e
 item:=by intro X hP hw hK hc i pins s σ H E I hf st hg;subst hP hw hK;obtain ⟨xs,x,hq,hx⟩:=hg;obtain ⟨its,rv,p,hz⟩:=I.tuple hq;obtain ⟨u,hu,ru⟩:=rv.get hx;obtain ⟨f0,f1,f2,f3,f4,f5⟩:=hf it Jo;refine wpAny_pyNext_tuple_item st (show s.heap.IsTuple a its.toArray from p) (x:=u) (by simpa using hu) fun h' st' sb=>?_;have I1:Inv X pins σ H {s with heap:=h'}:=I.turned (t':=s.toks) (fun b o hb e=>(sb.2 b hb).trans e) f0 f1 f3 f4 f5;obtain ⟨o,e,c,d⟩:=id st';exact zn u rfl (oO (s:={s with heap:=h'}) e c d Jm (zAS x H I1 ru ⟨rfl,fun ys hy=>by rw [I.tuple_inj hy hq];exact hx⟩ st' fun b hb=>(hf b hb).1))
 done:=by intro X hP hw hK hc i pins s σ H E I hf st hg;subst hP hw hK;obtain ⟨xs,hq,hx⟩:=hg;obtain ⟨its,rv,p,hz⟩:=I.tuple hq;obtain ⟨f0,f1,f2,f3,f4,f5⟩:=hf it Jo;have hl:=rv.length;exact wpAny_pyNext_tuple_end (I.ok.hd hc) st (show s.heap.IsTuple a its.toArray from p) (by simp;omega) fun h' eb=>⟨rfl,I.turned (t':=s.toks) (fun b o hb e=>eb b o hb e) f0 f1 f3 f4 f5⟩
 self:=fun _ _ _ _ _ st h=>wpAny_pyIter_tupleiter st h
theorem sd{w:World}{K:W.Frag}{tg:Expr}(it:Addr)(lo:Int)(n:Nat):jJ P w K tg (Itr lo n) [it] it (fun i h=>IsRangeIter h it (lo+(i:Nat) * 1) ((n:Int)-(i:Nat)) 1) where
 mem:=by simp
 obj:=fun i h st b hb=>by
  have e:b=it:=by simpa using hb
  subst e;exact ⟨_,st,fun v z=>by
   have z':Data.fields _=Data.cell v:=z
   cases z'⟩
 keep:=fun i h h' st k=>k it Jo _ st
 item:=by intro X hP hw hK hc i pins s σ H E I hf st hg;subst hP hw hK;obtain ⟨f0,f1,f2,f3,f4,f5⟩:=hf it Jo;have W:=Walks.range (prog:=X.prog) (w:=X.w) (I.ok.hd hc) it lo 1 n;refine W.item i s _ _ hg st fun v h' tk hv st' kk=>?_;obtain ⟨t,rfl⟩:=hv;have I1:Inv X pins σ H {s with heap:=h',toks:=tk}:=I.turned (fun b o hb e=>kk b o (by simpa using hb) e) f0 f1 f3 f4 f5;refine zn _ rfl (oO (s:={s with heap:=h',toks:=tk}) (n:="range_iterator") st' rfl rfl Jm (zAS (.int (lo+i)) H I1 ⟨t,?_⟩ ⟨rfl,rfl⟩ st' fun b hb=>(hf b hb).1));rw [Int.mul_one]
 done:=by intro X hP hw hK hc i pins s σ H E I hf st hg;subst hP hw hK;obtain ⟨f0,f1,f2,f3,f4,f5⟩:=hf it Jo;exact wpAny_pyNext_range_end (I.ok.hd hc) st (by have:n<=i:=hg;omega) fun h' eb=>⟨rfl,I.turned (t':=s.toks) (fun b o hb e=>eb b o hb e) f0 f1 f3 f4 f5⟩
 self:=fun _ _ _ _ _ st h=>wpAny_pyIter_rangeiter st h
end L2
namespace L2
variable {H:Hp} {pins:List (Addr×Obj)} {s:Shared} {σ:St}
section
variable {X:Cx} {tg:Expr}
def CF(K:W.Frag)(tl:TE):TI:=fun σ H R=>tl σ H fun x H1=>∃a,x=.ref a/\(∃xs,SqL K H1 a xs)/\R (Itl K a) H1
def Fi(K:W.Frag)(tl:TE):TI:=fun σ H R=>tl σ H fun x H1=>∃a,x=.ref a/\(∃xs,SqT K H1 a xs)/\R (Itt K a) H1
theorem pL{R:It->Hp->Prop}{E:Value->Shared->Prop}{lo hi:Int}{t u v:Tok}{tk:Nat}(I:Inv X pins σ H s)(h1:-(2 ^ 62)<=lo)(h2:lo<2 ^ 62)(h3:-(2 ^ 62)<=hi)(h4:hi<2 ^ 62)
 (q:R (Itr lo (hi-lo).toNat) H):wpAny (model X.prog X.w) X.A (pyIter (.ref s.heap.objs.size)) (PIE X pins σ tg R) E {s with heap:=s.heap.push {cls:=.type "range",data:=.fields #[.int lo t,.int hi u,.int 1 v]},toks:=tk}:=by
 refine wpAny_pyIter_range (IsRange.new ..) (small_one h1 h2 h3 h4) ?_;have I1:Inv X pins σ H {s with heap:=s.heap.push {cls:=.type "range",data:=.fields #[.int lo t,.int hi u,.int 1 v]},toks:=tk}:=I.kept fun b o e=>cy _ e;refine ⟨(s.heap.push {cls:=.type "range",data:=.fields #[.int lo t,.int hi u,.int 1 v]}).objs.size,[(s.heap.push {cls:=.type "range",data:=.fields #[.int lo t,.int hi u,.int 1 v]}).objs.size],_,_,H,rfl,
  I1.kept (t':=tk) fun b o e=>cy _ e,sd _ lo (hi-lo).toNat,?_,fun b hb=>?_,q⟩
 ·have e1:lo+((0:Nat):Int) * 1=lo:=by simp
  have e2:(((hi-lo).toNat:Nat):Int)-((0:Nat):Int)=Builtin.Range.rangeSize lo hi 1:=by rw [rangeSize_one];split<;>omega
  show IsRangeIter _ _ (lo+((0:Nat):Int) * 1) ((((hi-lo).toNat:Nat):Int)-((0:Nat):Int)) 1;rw [e1,e2];exact dy _ rfl
 ·have e:b=(s.heap.push {cls:=.type "range",data:=.fields #[.int lo t,.int hi u,.int 1 v]}).objs.size:=by simpa using hb
  subst e;exact I1.fpOk (zq0 _) (I1.hok.fresh (zq0 _))
def CG(ta:TA):TI:=fun σ H R=>ta σ H fun vs H1=>∃j:Int,vs=[.int j]/\-(2 ^ 62)<=j/\j<2 ^ 62/\R (Itr 0 j.toNat) H1
def xK(ta:TA):TI:=fun σ H R=>ta σ H fun vs H1=>∃i j:Int,vs=[.int i,.int j]/\(-(2 ^ 62)<=i/\i<2 ^ 62/\-(2 ^ 62)<=j/\j<2 ^ 62)/\R (Itr i (j-i).toNat) H1
theorem wj{a b:Expr}{ta:TA}{p pos:Pos}(hg:Gl X "range") (hm:X.mg "range"=none) (ha:PA X [a,b] ta) (hs:starEach [a,b] X.env=[(false,eval a X.env),(false,eval b X.env)]:=by rfl) (hs2:starEach [b] X.env=[(false,eval b X.env)]:=by rfl) :
  PI X tg (.Call (.Name "range" p) [a,b] [] pos) (xK ta):=by
 intro pins s σ H R I h;refine Call_ (dH I hg hm boot_range (PyProof.Rows.callWith_type1 (thn (ha pos pins s σ H _ I h) fun us s1 hhx=>?_) (by rw [hs,hs2]) (by rw [hs2];rfl)));obtain ⟨vs,H1,I1,r1,q1⟩:=hhx;obtain ⟨i,j,e,⟨q1,q2,q3,q4⟩,q⟩:=q1;subst e
 cases r1 with
 |cons r rr=>
  cases rr with
  |cons r' rr=>
   cases rr
   obtain ⟨t,rfl⟩:=r;obtain ⟨t',rfl⟩:=r';exact call_range_2 (pL I1 q1 q2 q3 q4 q)
def EV(wi:TI)(g:TG)(tb:TS):TS:=fun D σ H=>wi σ H fun J H1=>∃W:Nat->Nat->St->Hp->Prop,(∃m,W 0 m σ H1)/\∀i m σ H,W i m σ H->
 (J.stop i H/\D.nx σ H)\/(J.go i H/\∃N:St->Hp->Prop,(∀σ' H',N σ' H'->∃m',m'<m/\W (i+1) m' σ' H')/\∀x H',J.yld i H x H'->g x σ H' fun σ2 H2=>tb {D with nx:=N,ct:=N,bk:=D.nx} σ2 H2)
def i0(fp:List Addr)(h:Heap):List (Addr×Obj):=fp.filterMap fun b=>(h.get? b).map fun o=>(b,o)
theorem cX{fp:List Addr}{h:Heap}{b:Addr}{o:Obj}(hb:b∈fp)(e:h.get? b=some o):(b,o)∈i0 fp h:=List.mem_filterMap.mpr (zn b hb (by rw [e];rfl))
theorem vS{fp:List Addr}{h:Heap}{p:Addr×Obj}(hp:p∈i0 fp h):p.1∈fp/\h.get? p.1=some p.2:=by
 obtain ⟨b,hb,e⟩:=List.mem_filterMap.mp hp
 cases q:h.get? b with
 |none=>rw [q] at e;cases e
 |some o=>rw [q] at e;have e':(b,o)=p:=Option.some.inj e;subst e';exact ⟨hb,q⟩
theorem Inv.pinned{fp:List Addr}(I:Inv X pins σ H s)(hf:∀b∈fp,jl X pins H b)(ho:∀b∈fp,∃o,s.heap.get? b=some o/\∀v,o.data≠.cell v):Inv X (pins++i0 fp s.heap) σ H s:=
 I.pins_of fun p hp=>(zq15.mp hp).elim (fun z=>I.pin p (eM _ z)) fun z=>by obtain ⟨hb,e⟩:=vS z;obtain ⟨f0,f1,f2,_⟩:=hf p.1 hb;obtain ⟨o,e',d⟩:=ho p.1 hb;rw [e] at e';cases e';exact zAJ e f0 f1 f2 d
theorem Inv.unpinned{pl:List (Addr×Obj)}(I:Inv X (pins++pl) σ H s):Inv X pins σ H s:=I.pins_of fun p hp=>I.pin p (eM _ (l8 _ hp))
theorem DZ{iter:Expr}{body:List Stmt}{wi:TI}{g:TG}{tb:TS}{pos:Pos}(hp:PassesOwn (model X.prog X.w) X.A X.env X.xe)(hc:X.calm=true)(hi:PI X tg iter wi)(hg:PG X tg g)(hb:PSs X body tb)
 (hs:∀x,foldedSetIterable iter X.env x=pure x:=by intro _;rfl):PS X (.For tg iter body [] pos) (EV wi g tb):=by
 intro pins s σ H D I h;refine wpAny_For (thn (hi pins s σ H _ I h) fun v s1 h1=>thn h1 fun itv s2 h2=>?_) hs;obtain ⟨it,fp,tn,J,H2,e,I2,T,st2,f2,W,⟨m0,w0⟩,turn⟩:=h2;subst e;have stat:∀{H':Hp},(∀b∈fp,H' b=none)->∀b∈fp,jl X pins H' b:=fun hn b hb=>⟨hn b hb,(f2 b hb).2⟩
 refine codeAny_forLoop_any (fun n s'=>∃i σ' H',Inv X pins σ' H' s'/\tn i s'.heap/\(∀b∈fp,H' b=none)/\W i n σ' H') ?_ m0 (zAH 0 σ H2 I2 st2 (fun b hb=>(f2 b hb).1) w0);rintro n s3 ⟨i,σ3,H3,I3,st3,fr3,w3⟩;rcases turn i n σ3 H3 w3 with ⟨stop,qn⟩ | ⟨go,N,hN,step⟩
 ·refine wpAny_passesOwn hp (thn (T.done X rfl rfl rfl hc i pins s3 σ3 H3 X.xe I3 (stat fr3) st3 stop) fun r s4 ⟨hr,I4⟩=>?_);subst hr;exact wpAny_execs_nil (zAD σ3 H3 I4 qn)
 ·refine wpAny_passesOwn hp (thn (T.item X rfl rfl rfl hc i pins s3 σ3 H3 X.xe I3 (stat fr3) st3 go) fun r s4 ⟨u,hr,h4⟩=>?_);subst hr;refine wpAny_passesOwn hp (thn h4 fun _ s5 hhx=>?_);obtain ⟨x,H5,I5,r5,y5,st5,fr5⟩:=hhx;have I5':=I5.pinned (stat fr5) (T.obj _ _ st5);refine wpAny_passesOwn hp (thn (hg _ s5 σ3 H5 x u _ I5' r5 (step x H5 y5)) fun _ s6 hhx=>?_);obtain ⟨σ6,H6,I6,q6⟩:=hhx;refine wpAny_passesOwn hp (thn (hb _ s6 σ6 H6 _ I6 q6) fun f s7 q7=>?_);have again:∀{σ7:St} {H7:Hp},Inv X (pins++i0 fp s5.heap) σ7 H7 s7->N σ7 H7->∃m,m<n/\∃i σ' H',Inv X pins σ' H' s7/\tn i s7.heap/\(∀b∈fp,H' b=none)/\W i m σ' H':=fun {σ7 H7} I7 n7=>by obtain ⟨m',hm,w7⟩:=hN σ7 H7 n7;refine zn m' hm (zAH (i+1) σ7 H7 I7.unpinned (T.keep _ _ _ st5 fun b hb o e=>(I7.pin (b,o) (eM _ (eM _ (cX hb e)))).1) (fun b hb=>?_) w7);obtain ⟨o,e,d⟩:=T.obj _ _ st5 b hb;exact (I7.pin (b,o) (eM _ (eM _ (cX hb e)))).2.1
  cases f with
  |next=>obtain ⟨σ7,H7,I7,n7⟩:=q7;exact again I7 n7
  |cont=>obtain ⟨σ7,H7,I7,n7⟩:=q7;exact again I7 n7
  |brk=>obtain ⟨σ7,H7,I7,q7⟩:=q7;exact zAD σ7 H7 I7.unpinned q7
  |ret v=>obtain ⟨x7,σ7,H7,I7,r7,q7⟩:=q7;exact zAO x7 σ7 H7 I7.unpinned r7 q7
end
theorem xB{K:W.Frag}{a:Addr}{xs:List V}{g:TG}{tb:TS}{D:dm}(Pv:Nat->St->Hp->Prop)(h0:Pv 0 σ H)(hl:∀i σ H,i<=xs.length->Pv i σ H->SqL K H a xs)
 (hs:∀i x σ H,xs[i]?=some x->Pv i σ H->g x σ H fun σ2 H2=>tb {D with nx:=Pv (i+1),ct:=Pv (i+1),bk:=D.nx} σ2 H2) (hd:∀σ H,Pv xs.length σ H->D.nx σ H) :
 ∃W:Nat->Nat->St->Hp->Prop,(∃m,W 0 m σ H)/\∀i m σ H,W i m σ H->
   ((Itl K a).stop i H/\D.nx σ H)\/((Itl K a).go i H/\∃N:St->Hp->Prop,(∀σ' H',N σ' H'->∃m',m'<m/\W (i+1) m' σ' H')/\∀x H',(Itl K a).yld i H x H'->g x σ H' fun σ2 H2=>tb {D with nx:=N,ct:=N,bk:=D.nx} σ2 H2):=by
 refine zn (fun i m σ H=>m=xs.length-i/\i<=xs.length/\Pv i σ H) (zAC xs.length Jo (ce _) h0) ?_;rintro i m σ H ⟨rfl,hi,p⟩;have q:=hl i σ H hi p
 by_cases hlt:i<xs.length
 ·refine .inr ⟨zAD xs (xs[i]) q (by simp [hlt]),zn (Pv (i+1)) (fun σ' H' p'=>zAF (xs.length-(i+1)) Jn rfl hlt p') fun x H' y=>?_⟩;obtain ⟨e,y⟩:=y;subst e;exact hs i x σ _ (y xs q) p
 ·have e:i=xs.length:=by omega
  subst e;exact .inl ⟨zn xs q (zq0 _),hd σ H p⟩
theorem vx{lo:Int}{n:Nat}{g:TG}{tb:TS}{D:dm}(Pv:Nat->St->Hp->Prop)(h0:Pv 0 σ H)
 (hs:∀i σ H,i<n->Pv i σ H->g (.int (lo+i)) σ H fun σ2 H2=>tb {D with nx:=Pv (i+1),ct:=Pv (i+1),bk:=D.nx} σ2 H2) (hd:∀σ H,Pv n σ H->D.nx σ H) :
 ∃W:Nat->Nat->St->Hp->Prop,(∃m,W 0 m σ H)/\∀i m σ H,W i m σ H->
   ((Itr lo n).stop i H/\D.nx σ H)\/((Itr lo n).go i H/\∃N:St->Hp->Prop,(∀σ' H',N σ' H'->∃m',m'<m/\W (i+1) m' σ' H')/\∀x H',(Itr lo n).yld i H x H'->g x σ H' fun σ2 H2=>tb {D with nx:=N,ct:=N,bk:=D.nx} σ2 H2):=by
 refine zn (fun i m σ H=>m=n-i/\i<=n/\Pv i σ H) (zAC n Jo (ce _) h0) ?_;rintro i m σ H ⟨rfl,hi,p⟩
 by_cases hlt:i<n
 ·refine .inr ⟨hlt,zn (Pv (i+1)) (fun σ' H' p'=>zAF (n-(i+1)) Jn rfl hlt p') fun x H' y=>?_⟩;obtain ⟨e,y⟩:=y;subst e y;exact hs i σ _ hlt p
 ·have e:i=n:=by omega
  subst e;exact .inl ⟨zq0 _,hd σ H p⟩
end L2
namespace L2
abbrev R2:=V->V->Hp->VK->Prop
def OpR(X:Cx)(f:Value->Value->Sem Value)(r:R2):Prop:=
 ∀(pins:List (Addr×Obj)) (s:Shared) (σ:St) (H:Hp) (x y:V) (v u:Value) (Q:VK),Inv X pins σ H s->RelV x v->RelV y u->r x y H Q->
  wpAny (model X.prog X.w) X.A (f v u) (EP X pins σ Q) X.xe s
def UnR(X:Cx)(f:Value->Sem Value)(r:V->Hp->VK->Prop):Prop:=
 ∀(pins:List (Addr×Obj)) (s:Shared) (σ:St) (H:Hp) (x:V) (v:Value) (Q:VK),Inv X pins σ H s->RelV x v->r x H Q->
  wpAny (model X.prog X.w) X.A (f v) (EP X pins σ Q) X.xe s
def eA(X:Cx)(f:Value)(r:List V->Hp->VK->Prop):Prop:=
 ∀(pins:List (Addr×Obj)) (s:Shared) (σ:St) (H:Hp) (xs:List V) (us:List Value) (Q:VK),Inv X pins σ H s->Vals xs us->r xs H Q->
  wpAny (model X.prog X.w) X.A (call f us) (EP X pins σ Q) X.xe s
def tOp(r:R2)(ta tb:TE):TE:=fun σ H Q=>ta σ H fun x H1=>tb σ H1 fun y H2=>r x y H2 Q
def tUn(r:V->Hp->VK->Prop)(ta:TE):TE:=fun σ H Q=>ta σ H fun x H1=>r x H1 Q
def rI(C:Int->Int->Prop)(g:Int->Int->V):R2:=fun x y H Q=>∃i j,x=.int i/\y=.int j/\C i j/\Q (g i j) H
def rI0(g:Int->Int->V):R2:=fun x y H Q=>∃i j,x=.int i/\y=.int j/\Q (g i j) H
def rU(g:Int->V):V->Hp->VK->Prop:=fun x H Q=>∃i,x=.int i/\Q (g i) H
section
variable {X:Cx} {a b c:Expr} {ta tb tc:TE} {pos:Pos}
theorem De(ha:PE X a ta)(hb:PE X b tb){pins:List (Addr×Obj)}{s:Shared}{σ:St}{H:Hp}{R:V->V->Hp->Prop}(I:Inv X pins σ H s)
  (h:ta σ H fun x H1=>tb σ H1 fun y H2=>R x y H2) {Q:Value->Shared->Prop} {f:Value->Value->Sem Value}
  (hf:∀v u s2 x y H2,Inv X pins σ H2 s2->RelV x v->RelV y u->R x y H2->wpAny (model X.prog X.w) X.A (f v u) Q X.xe s2) :
  wpAny (model X.prog X.w) X.A (eval a X.env) (fun v s₁=>wpAny (model X.prog X.w) X.A (eval b X.env) (fun u s₂=>wpAny (model X.prog X.w) X.A (f v u) Q X.xe s₂) X.xe s₁) X.xe s:=by
 refine thn (ha pins s σ H _ I h) fun v s1 hhx=>?_;obtain ⟨x,H1,I1,r1,q1⟩:=hhx;refine thn (hb pins s1 σ H1 _ I1 q1) fun u s2 hhx=>?_;obtain ⟨y,H2,I2,r2,q2⟩:=hhx;exact hf v u s2 x y H2 I2 r1 r2 q2
theorem opI{f:Value->Value->Sem Value}{C:Int->Int->Prop}{g:Int->Int->Int}
  (rule:∀(i j:Int)(t u:Tok)(s:Shared)(Q:Value->Shared->Prop)(E:Value->Shared->Prop),C i j->Q (.int (g i j) s.toks) {s with toks:=s.toks+1}->wpAny (model X.prog X.w) X.A (f (.int i t) (.int j u)) Q E s) :
  OpR X f (rI C fun i j=>.int (g i j)):=by
 intro pins s σ H x y v u Q I rx ry h;obtain ⟨i,j,rfl,rfl,hc,q⟩:=h;obtain ⟨t,rfl⟩:=rx;obtain ⟨t',rfl⟩:=ry;exact rule i j t t' s _ _ hc (zAA (.int (g i j)) H (I.tok _) ⟨_,rfl⟩ q)
theorem yr{f:Value->Value->Sem Value}{g:Int->Int->Int}
  (rule:∀(i j:Int)(t u:Tok)(s:Shared)(Q:Value->Shared->Prop)(E:Value->Shared->Prop),Q (.int (g i j) s.toks) {s with toks:=s.toks+1}->wpAny (model X.prog X.w) X.A (f (.int i t) (.int j u)) Q E s) :
  OpR X f (rI0 fun i j=>.int (g i j)):=by
 intro pins s σ H x y v u Q I rx ry h;obtain ⟨i,j,rfl,rfl,q⟩:=h;obtain ⟨t,rfl⟩:=rx;obtain ⟨t',rfl⟩:=ry;exact rule i j t t' s _ _ (zAA (.int (g i j)) H (I.tok _) ⟨_,rfl⟩ q)
theorem BA{f:Value->Value->Sem Value}{g:Int->Int->Bool}
  (rule:∀(i j:Int)(t u:Tok)(s:Shared)(Q:Value->Shared->Prop)(E:Value->Shared->Prop),Q (.bool (g i j)) s->wpAny (model X.prog X.w) X.A (f (.int i t) (.int j u)) Q E s) :
  OpR X f (rI0 fun i j=>.bl (g i j)):=by
 intro pins s σ H x y v u Q I rx ry h;obtain ⟨i,j,rfl,rfl,q⟩:=h;obtain ⟨t,rfl⟩:=rx;obtain ⟨t',rfl⟩:=ry;exact rule i j t t' s _ _ (zAA (.bl (g i j)) H I rfl q)
def vf(i j:Int):Prop:=0<=j/\j<=1000000/\i.natAbs<2 ^ 64
def CMul(i j:Int):Prop:=(-(2 ^ 64)<i/\i<2 ^ 64)\/(-(2 ^ 64)<j/\j<2 ^ 64)
theorem CMul.ok{i j:Int}(h:CMul i j):IntMulOk i j:=by
 rcases h with ⟨h1,h2⟩ | ⟨h1,h2⟩
 ·exact .of_left (intBits_le_64 h1 h2)
 ·exact .of_right (intBits_le_64 h1 h2)
theorem DM:OpR X (binaryOp .Add) (rI0 fun i j=>.int (i+j)):=yr fun _ _ _ _ _ _ _ q=>add_int q
theorem DS:OpR X (binaryOp .Sub) (rI0 fun i j=>.int (i-j)):=yr fun _ _ _ _ _ _ _ q=>sub_int q
theorem DP:OpR X (binaryOp .Mult) (rI CMul fun i j=>.int (i * j)):=opI fun _ _ _ _ _ _ _ hc q=>mul_int q hc.ok
theorem DO:OpR X (binaryOp .Mod) (rI (fun _ j=>0<j) fun i j=>.int (i % j)):=opI fun i j _ _ _ _ _ hc q=>by have h1:(0:Int)<j:=hc;exact mod_int' Jn (by rw [Int.fmod_eq_emod_of_nonneg i Jn];exact q)
theorem DQ:OpR X (binaryOp .Pow) (rI vf fun i j=>.int (i ^ j.toNat)):=opI fun _ _ _ _ _ _ _ hc q=>pow_int_small hc.1 hc.2.1 hc.2.2 q
theorem DR:OpR X (binaryOp .LShift) (rI vf fun i j=>.int (i * 2 ^ j.toNat)):=opI fun _ _ _ _ _ _ _ hc q=>lshift_int_small hc.1 hc.2.1 hc.2.2 q
theorem DN:OpR X (binaryOp .BitAnd) (rI0 fun i j=>.int (Builtin.bitAnd i j)):=yr fun _ _ _ _ _ _ _ q=>and_int q
theorem Fv:OpR X (binaryOp .BitOr) (rI0 fun i j=>.int (Builtin.bitOr i j)):=yr fun _ _ _ _ _ _ _ q=>or_int q
theorem DT:OpR X (binaryOp .BitXor) (rI0 fun i j=>.int (Builtin.bitXor i j)):=yr fun _ _ _ _ _ _ _ q=>xor_int q
theorem unI{f:Value->Sem Value}{g:Int->Int}
  (rule:∀(i:Int)(t:Tok)(s:Shared)(Q:Value->Shared->Prop)(E:Value->Shared->Prop),Q (.int (g i) s.toks) {s with toks:=s.toks+1}->wpAny (model X.prog X.w) X.A (f (.int i t)) Q E s) :
  UnR X f (rU fun i=>.int (g i)):=by
 intro pins s σ H x v Q I rx h;obtain ⟨i,rfl,q⟩:=h;obtain ⟨t,rfl⟩:=rx;exact rule i t s _ _ (zAA (.int (g i)) H (I.tok _) ⟨_,rfl⟩ q)
theorem F1:UnR X (unaryOp .USub) (rU fun i=>.int (-i)):=unI fun _ _ _ _ _ q=>neg_int q
end
def wD:V->V->Bool
 | .non,.non=>true | .non,.int _=>true | .int _,.non=>true | .non,.bl _=>true | .bl _,.non=>true | .non,.str _=>true | .str _,.non=>true
 | .int _,.int _=>true | .bl _,.bl _=>true | .str _,.str _=>true | .byt _,.byt _=>true
 | .int _,.str _=>true | .str _,.int _=>true | .bl _,.str _=>true | .str _,.bl _=>true
 |_,_=>false
def rEq:R2:=fun x y H Q=>wD x y=true/\Q (.bl (decide (x=y))) H
def rNe:R2:=fun x y H Q=>wD x y=true/\Q (.bl (!decide (x=y))) H
theorem tD{i j:Int}:decide (V.int i=V.int j)=(i==j):=by rw [sy];simp
theorem xu{i j:Bool}:decide (V.bl i=V.bl j)=(i==j):=by rw [sy];simp
theorem tE{i j:Str}:decide (V.str i=V.str j)=(i==j):=by rw [sy];simp
theorem tw{i j:Array UInt8}:decide (V.byt i=V.byt j)=(i.toList==j.toList):=by
 rw [sy]
 cases i
 cases j
 simp
section
variable {X:Cx} {a b c:Expr} {ta tb tc:TE} {pos:Pos}
theorem bv{pins:List (Addr×Obj)}{σ:St}{H:Hp}{s:Shared}{Q:VK}{k k':Bool}(I:Inv X pins σ H s)(q:Q (.bl k) H)(e:k=k'):EP X pins σ Q (.bool k') s:=by subst e;exact zAA (.bl k) H I rfl q
theorem aR:OpR X (compareOp .Eq) rEq:=by
 intro pins s σ H x y v u Q I rx ry h;obtain ⟨hs,q⟩:=h
 cases x with
 |non=>
  cases rx
  cases y with
  |non=>cases ry;exact PySem.EqNone.eq_none_none (bv I q Jo)
  |bl j=>cases ry;exact PySem.EqNone.eq_none_bool (bv I q Jo)
  |int j=>obtain ⟨t',rfl⟩:=ry;exact PySem.EqNone.eq_none_int (bv I q Jo)
  |str j=>obtain ⟨t',rfl⟩:=ry;exact PySem.EqNone.eq_none_str (bv I q Jo)
  |_=>exact absurd (show false=true from hs) zq6
 |bl i=>
  cases rx
  cases y with
  |non=>cases ry;exact PySem.EqNone.eq_bool_none (bv I q Jo)
  |bl j=>cases ry;exact eq_bool (bv I q xu)
  |str j=>obtain ⟨t',rfl⟩:=ry;exact PySem.EqMixed.eq_bool_str (bv I q Jo)
  |_=>exact absurd (show false=true from hs) zq6
 |int i=>
  obtain ⟨t,rfl⟩:=rx
  cases y with
  |non=>cases ry;exact PySem.EqNone.eq_int_none (bv I q Jo)
  |int j=>obtain ⟨t',rfl⟩:=ry;exact eq_int (bv I q tD)
  |str j=>obtain ⟨t',rfl⟩:=ry;exact PySem.EqMixed.eq_int_str (bv I q Jo)
  |_=>exact absurd (show false=true from hs) zq6
 |str i=>
  obtain ⟨t,rfl⟩:=rx
  cases y with
  |non=>cases ry;exact PySem.EqNone.eq_str_none (bv I q Jo)
  |bl j=>cases ry;exact PySem.EqMixed.eq_str_bool (bv I q Jo)
  |int j=>obtain ⟨t',rfl⟩:=ry;exact PySem.EqMixed.eq_str_int (bv I q Jo)
  |str j=>obtain ⟨t',rfl⟩:=ry;exact eq_str (bv I q tE)
  |_=>exact absurd (show false=true from hs) zq6
 |byt i=>
  obtain ⟨t,rfl⟩:=rx
  cases y with
  |byt j=>obtain ⟨t',rfl⟩:=ry;exact W.eq_bytes (bv I q tw)
  |_=>exact absurd (show false=true from hs) zq6
 |_=>cases y<;>exact absurd (show false=true from hs) zq6
theorem eF:OpR X (compareOp .NotEq) rNe:=by
 intro pins s σ H x y v u Q I rx ry h;obtain ⟨hs,q⟩:=h
 cases x with
 |non=>
  cases rx
  cases y with
  |non=>cases ry;exact PySem.EqNone.ne_none_none (bv I q Jo)
  |bl j=>cases ry;exact PySem.EqNone.ne_none_bool (bv I q Jo)
  |int j=>obtain ⟨t',rfl⟩:=ry;exact PySem.EqNone.ne_none_int (bv I q Jo)
  |str j=>obtain ⟨t',rfl⟩:=ry;exact PySem.EqNone.ne_none_str (bv I q Jo)
  |_=>exact absurd (show false=true from hs) zq6
 |bl i=>
  cases rx
  cases y with
  |non=>cases ry;exact PySem.EqNone.ne_bool_none (bv I q Jo)
  |bl j=>cases ry;exact ne_bool (bv I q (congrArg not xu))
  |str j=>obtain ⟨t',rfl⟩:=ry;exact PySem.EqMixed.ne_bool_str (bv I q Jo)
  |_=>exact absurd (show false=true from hs) zq6
 |int i=>
  obtain ⟨t,rfl⟩:=rx
  cases y with
  |non=>cases ry;exact PySem.EqNone.ne_int_none (bv I q Jo)
  |int j=>obtain ⟨t',rfl⟩:=ry;exact ne_int (bv I q (congrArg not tD))
  |str j=>obtain ⟨t',rfl⟩:=ry;exact PySem.EqMixed.ne_int_str (bv I q Jo)
  |_=>exact absurd (show false=true from hs) zq6
 |str i=>
  obtain ⟨t,rfl⟩:=rx
  cases y with
  |non=>cases ry;exact PySem.EqNone.ne_str_none (bv I q Jo)
  |bl j=>cases ry;exact PySem.EqMixed.ne_str_bool (bv I q Jo)
  |int j=>obtain ⟨t',rfl⟩:=ry;exact PySem.EqMixed.ne_str_int (bv I q Jo)
  |str j=>obtain ⟨t',rfl⟩:=ry;exact ne_str (bv I q (congrArg not tE))
  |_=>exact absurd (show false=true from hs) zq6
 |byt i=>
  obtain ⟨t,rfl⟩:=rx
  cases y with
  |byt j=>obtain ⟨t',rfl⟩:=ry;exact W.ne_bytes (bv I q (congrArg not tw))
  |_=>exact absurd (show false=true from hs) zq6
 |_=>cases y<;>exact absurd (show false=true from hs) zq6
theorem Fu:OpR X (compareOp .Lt) (rI0 fun i j=>.bl (decide (i<j))):=BA fun _ _ _ _ _ _ _ q=>lt_int q
theorem Ft:OpR X (compareOp .LtE) (rI0 fun i j=>.bl (decide (i<=j))):=BA fun _ _ _ _ _ _ _ q=>le_int q
theorem Fs:OpR X (compareOp .Gt) (rI0 fun i j=>.bl (decide (j<i))):=BA fun _ _ _ _ _ _ _ q=>gt_int q
theorem Fq:OpR X (compareOp .GtE) (rI0 fun i j=>.bl (decide (j<=i))):=BA fun _ _ _ _ _ _ _ q=>ge_int q
theorem rE:OpR X (compareOp .Is) (fun x y H Q=>y=.non/\Q (.bl (decide (x=.non))) H):=by
 intro pins s σ H x y v u Q I rx ry h;obtain ⟨rfl,q⟩:=h
 cases ry
 refine is_none_gen (bv I q ?_)
 cases x<;>first
  | (cases rx;rfl)
  | (obtain ⟨t,rfl⟩:=rx;rfl)
theorem ix:OpR X (compareOp .IsNot) (fun x y H Q=>y=.non/\Q (.bl (!decide (x=.non))) H):=by
 intro pins s σ H x y v u Q I rx ry h;obtain ⟨rfl,q⟩:=h
 cases ry
 refine isnot_none_gen (bv I q ?_)
 cases x<;>first
  | (cases rx;rfl)
  | (obtain ⟨t,rfl⟩:=rx;rfl)
theorem aA(b:Expr){op:CmpOp}(h:op≠.In:=by decide)(h2:op≠.NotIn:=by decide):behindInMarks op b=false:=by
 have e1:(op==CmpOp.In)=false:=by cases op<;>first | rfl | exact absurd rfl h
 have e2:(op==CmpOp.NotIn)=false:=by cases op<;>first | rfl | exact absurd rfl h2
 cases b<;>simp [behindInMarks,e1,e2]
def D2(t:TE):TT:=fun σ H Q=>t σ H fun x H'=>∃k,x=.bl k/\Q k H'
theorem kc:(sizeLine:Nat)<2 ^ 63:=by rw [sizeLine_eq];decide
theorem gU{x:V}{us:List Value}(r:Vals [x] us):∃u,us=[u]/\RelV x u:=by
 cases r with
 |cons r1 r2=>cases r2;exact zn _ rfl r1
theorem A1{x y:V}{us:List Value}(r:Vals [x,y] us):∃u w',us=[u,w']/\RelV x u/\RelV y w':=by
 cases r with
 |cons r1 r2=>
  cases r2 with
  |cons r3 r4=>cases r4;exact zAA _ _ rfl r1 r3
theorem lN(hc:X.calm=true):eA X (.builtin "min") (fun xs H Q=>∃i j,xs=[.int i,.int j]/\Q (.int (if j<i then j else i)) H):=by
 intro pins s σ H xs us Q I r h;obtain ⟨i,j,rfl,q⟩:=h;obtain ⟨u,w',rfl,⟨t,rfl⟩,⟨t',rfl⟩⟩:=A1 r;refine min_two_ints (I.ok.hd hc) fun h' tk k=>zAA _ H (I.kept k) ?_ q
 by_cases hj:j<i
 ·rw [if_pos hj,if_pos hj];exact ⟨_,rfl⟩
 ·rw [if_neg hj,if_neg hj];exact ⟨_,rfl⟩
theorem dq:eA X (.type "int") (fun xs H Q=>(∃i,xs=[.int i]/\Q (.int i) H)\/∃k,xs=[.bl k]/\Q (.int (if k then 1 else 0)) H):=by
 intro pins s σ H xs us Q I r h;rcases h with ⟨i,rfl,q⟩ | ⟨k,rfl,q⟩
 ·obtain ⟨u,rfl,t,rfl⟩:=gU r;exact call_int_int (zAA (.int i) H I ⟨_,rfl⟩ q)
 ·obtain ⟨u,rfl,r1⟩:=gU r
  cases r1
  exact call_int_bool (zAA (.int (if k then 1 else 0)) H (I.tok _) ⟨_,rfl⟩ q)
end
end L2
namespace L2
structure ObjM(h:Heap)(x dx C:Addr)(mA:Str->Option Value):Prop where
 obj:h.get? x=some (W.instObj C dx)
 ns:h.Ns1 dx mA
 ne:dx≠x
theorem vO{h:Heap}{dx:Addr}{mA:Str->Option Value}(n:h.Ns1 dx mA):∃od,h.get? dx=some od/\∀name,W.lookIn name od=some (mA name):=by
 obtain ⟨o,es,ep,ho,hd,hk,_,hm⟩:=n;refine zn o ho fun name=>?_;have e:=hm name;unfold nsFind findBy at e;rw [<- Array.find?_toList] at e;unfold W.lookIn;rw [hd];dsimp only
 split
 ·rename_i y q
  rw [q] at e;exact congrArg some e
 ·rename_i q
  rw [q] at e;have a:es.toList.any (·.refKey)=false:=by rw [List.any_eq_false];intro y hy;obtain ⟨z,t,hkey⟩:=hk y (Array.mem_toList_iff.mp hy);simp [DictEntry.refKey,hkey]
  have a':¬es.toList.any (·.refKey)=true:=by rw [a];exact zq6
  rw [if_neg a'];exact congrArg some e
theorem ObjM.look{h:Heap}{x dx C:Addr}{mA:Str->Option Value}(I:ObjM h x dx C mA):∃od,W.InstAt h x (W.instObj C dx) C (some od)/\∀name,W.lookIn name od=some (mA name):=
 let ⟨od,ho,hl⟩:=vO I.ns
 (zn od ⟨I.obj,rfl,rfl,ho⟩ hl)
section
variable {prog:Program} {w:World} {A:Around} {E:Value->Shared->Prop} {s:Shared} {K:W.Frag} {x dx C f:Addr} {mA:Str->Option Value} {name:Str} {v:Value}
theorem B9{expr:Bool}{Q:Value->Shared->Prop}(X:K.In s.heap)(I:ObjM s.heap x dx C mA)(hg:W.plainGet K C name=true)(hh:W.hasDictIn K C=true)
  (ha:W.findIn K (.ref C) name=some none) (hv:mA name=some v) (hv':W.handedIn v=true) (h:Q v {s with toks:=s.toks+1}) :
  wpAny (model prog w) A (getAttr (.ref x) name expr) Q E s:=by
 obtain ⟨od,J,hl⟩:=I.look;exact W.get_value X J (W.plainGet_of hg).1 (W.findObj_own hh ha rfl (by rw [hl,hv])) hv' h
theorem xG{pl:Sem Bool}{Q:Value×List Value->Shared->Prop}(X:K.In s.heap)(I:ObjM s.heap x dx C mA)(hg:W.plainGet K C name=true)
  (hf:W.findIn K (.ref C) name=some (some (.ref f))) (ht:W.isFn K (.ref f)=true) (hv:mA name=none) (h:Q (.ref f,[.ref x]) s) :
  wpAny (model prog w) A (getMethod (.ref x) name pl) Q E s:=by
 obtain ⟨od,J,hl⟩:=I.look;exact W.method_fn X J (W.plainGet_of hg).1 (W.plainGet_of hg).2 hf (beq_iff_eq.mp ht) (by show (W.lookIn name od).map (·.isSome)=some false;rw [hl,hv];rfl) h
theorem C8{ns:List Str}{Q:Unit->Shared->Prop}(X:K.In s.heap)(I:ObjM s.heap x dx C mA)
  (hs:W.findIn K (.ref C) "__setattr__"=some (some (.builtin "object.__setattr__"))) (hp:W.plainOver K C=true) (ht:W.takerIn K C name=some none) (hh:W.hasDictIn K C=true)
  (hw:PySem.Within mA ns) (hsz:ns.length<=sizeLine)
  (h:∀h',ObjM h' x dx C (fun y=>if y=name then some v else mA y)->Heap.SameBut dx s.heap h'->Q () {s with heap:=h',toks:=s.toks+2}) :
  wpAny (model prog w) A (setAttr (.ref x) name v) Q E s:=by
 obtain ⟨od,J,hl⟩:=I.look;refine W.set_plain X J hs (W.osa_open (s:={s with toks:=s.toks+1}) (r:=none) X J hp ht fun b=>?_);obtain ⟨cd,hc,hd'⟩:=W.any_some hh;have hx:s.heap.get? x=some ⟨.ref C,some dx,.plain,#[]⟩:=I.obj;refine wpAny_bind (wpAny_pure (wpAny_bind (wpAny_bind (wpAny_loadPart hx (wpAny_bind (W.Looks.here (s:={s with toks:=s.toks+1}) (W.looks_clsIn X hc) ?_))))));rw [hd'];refine wpAny_pure (a:=some dx) (wpAny_bind (wpAny_pure (wpAny_bind ?_)));refine wpAny_nsSet1 (s:={s with toks:=s.toks+1}) I.ns fun h' hn2 hs2=>?_;obtain ⟨oD,esD,epD,hoD,hdD,hcD⟩:=hn2.count (PySem.Within.cons name v hw);refine wpAny_bind (wpAny_lookBehind hoD (by rw [hdD];exact pastItsLine_dict (cR hcD (by rw [dk];omega))) ?_);exact wpAny_pure (h _ ⟨(hs2.2 _ (Ne.symm I.ne)).trans I.obj,hn2,I.ne⟩ hs2)
theorem xV{R:Result->Shared->Prop}{vs:List Value}{kw:List (Str×Value)}(X:K.In s.heap)(hm:W.makesIn K C=true)
  (hi:W.findIn K (.ref C) "__init__"=some (some (.ref f))) (hf:W.typeIn K (.ref f)=some (.type "function"))
  (h:codeAny (model prog w) (A.under (.builtin "type.__call__" ⟨.ref C::vs,kw⟩)) (.call (.ref f) ⟨.ref (s.heap.objs.size+1)::vs,kw⟩) (W.InitBack (s.heap.objs.size+1) R)
   {s with heap:=(s.heap.push W.emptyDict).push (W.instObj C s.heap.objs.size)}) :
  codeAny (model prog w) A (.call (.ref C) ⟨vs,kw⟩) R s:=by
 obtain ⟨hh,g,d,t,os⟩:=s;exact W.make_core (W.makes_of X hm) (W.looks_findIn X hi) (fun self=>W.bind_fn X self hf) (.inl rfl) h
end
def di(f:Str)(v:V):List (Str×V)->List (Str×V)
 | []=>[(f,v)]
 | (g,x)::r=>if g=f then (g,v)::r else (g,x)::di f v r
theorem jh(f g:Str)(v:V):∀fs:List (Str×V),(di f v fs).lookup g=if g=f then some v else fs.lookup g
 | []=>by
  show List.lookup g [(f,v)]=_
  by_cases h:g=f
  ·have hb:(g==f)=true:=beq_iff_eq.mpr h;simp only [List.lookup,hb,if_pos h]
  ·have hb:(g==f)=false:=beq_eq_false_iff_ne.mpr h;simp only [List.lookup,hb,if_neg h]
 | (k,x)::r=>by
  have ih:=jh f g v r;rw [show di f v ((k,x)::r)=(if k=f then (k,v)::r else (k,x)::di f v r) from rfl]
  by_cases hk:k=f
  ·rw [if_pos hk]
   by_cases h:g=k
   ·have hb:(g==k)=true:=beq_iff_eq.mpr h;simp only [List.lookup,hb,if_pos (h.trans hk)]
   ·have hb:(g==k)=false:=beq_eq_false_iff_ne.mpr h;simp only [List.lookup,hb,if_neg (fun e:g=f=>h (e.trans hk.symm))]
  ·rw [if_neg hk]
   by_cases h:g=k
   ·have hb:(g==k)=true:=beq_iff_eq.mpr h;simp only [List.lookup,hb,if_neg (fun e:g=f=>hk (h.symm.trans e))]
   ·have hb:(g==k)=false:=beq_eq_false_iff_ne.mpr h;simp only [List.lookup,hb];exact ih
theorem iW(f:Str)(v:V):∀fs:List (Str×V),f∈(di f v fs).map (·.1)/\∀g,g∈fs.map (·.1)->g∈(di f v fs).map (·.1)
 | []=>⟨by simp [di],fun g h=>by simp at h⟩
 | (k,x)::r=>by
  obtain ⟨i1,i2⟩:=iW f v r;rw [show di f v ((k,x)::r)=(if k=f then (k,v)::r else (k,x)::di f v r) from rfl]
  by_cases hk:k=f
  ·rw [if_pos hk];subst hk;exact ⟨Jo,fun g h=>by simpa using h⟩
  ·rw [if_neg hk];refine ⟨?_,fun g h=>?_⟩
   ·rw [dh];exact zq9 _ i1
   ·rw [dh] at h ⊢;rcases zq5.mp h with e | e
    ·exact zq5.mpr (.inl e)
    ·exact zq9 _ (i2 g e)
theorem jg(f:Str)(v:V):∀fs:List (Str×V),(di f v fs).length<=fs.length+1
 | []=>by simp [di]
 | (k,x)::r=>by
  have ih:=jg f v r;rw [show di f v ((k,x)::r)=(if k=f then (k,v)::r else (k,x)::di f v r) from rfl]
  by_cases hk:k=f
  ·rw [if_pos hk,dk,dk];omega
  ·rw [if_neg hk,dk,dk];omega
theorem RelO.some_of{v:V}{o:Option Value}(r:RelO (some v) o):∃u,o=some u/\RelV v u:=by
 cases o with
 |none=>exact (show False from r).elim
 |some u=>exact zn u rfl r
theorem RelO.none_of{o:Option Value}(r:RelO none o):o=none:=by
 cases o with
 |none=>rfl
 |some u=>exact (show False from r).elim
theorem vz{v:V}{u:Value}(r:RelV v u):W.handedIn u=true:=by
 cases v with
 |non=>cases (show u=Value.none from r);rfl
 |bl b=>cases (show u=Value.bool b from r);rfl
 |int i=>obtain ⟨t,e⟩:=(show ∃t,u=Value.int i t from r);cases e;rfl
 |str x=>obtain ⟨t,e⟩:=(show ∃t,u=Value.str x t from r);cases e;rfl
 |byt b=>obtain ⟨t,e⟩:=(show ∃t,u=Value.bytes b t from r);cases e;rfl
 |flt b=>obtain ⟨t,e⟩:=(show ∃t,u=Value.float b t from r);cases e;rfl
 |ref a=>cases (show u=Value.ref a from r);rfl
 |ty n=>cases (show u=Value.type n from r);rfl
section
variable {P:Program} {w:World} {H H':Hp} {h h':Heap} {a C dx:Addr} {fs fs':List (Str×V)}
theorem mM(hok:HOk P w H h)(e:H a=some (.ins C dx fs)):∃mA,ObjM h a dx C mA/\(∀f,RelO (fs.lookup f) (mA f))/\PySem.Within mA (fs.map (·.1))/\fs.length<=1000/\H dx=some (.own a):=by
 obtain ⟨d,z,ne,ob,mA,n,r,q⟩:=(show ObjOk P w H h a (.ins C dx fs) from hok a _ e)
 exact zBA mA ⟨ob,n,ne⟩ r q z d
end
structure Cls(K:W.Frag)(C:Addr):Prop where
 pg:W.plainGet K C Str.empty=true
 hd:W.hasDictIn K C=true
 po:W.plainOver K C=true
 sa:W.findIn K (.ref C) "__setattr__"=some (some (.builtin "object.__setattr__"))
theorem Cls.get{K:W.Frag}{C:Addr}(c:Cls K C)(f:Str):W.plainGet K C f=true:=c.pg
def NoAttr(K:W.Frag)(C:Addr)(f:Str):Prop:=W.findIn K (.ref C) f=some none
theorem NoAttr.taker{K:W.Frag}{C:Addr}{f:Str}(n:NoAttr K C f):W.takerIn K C f=some none:=by unfold W.takerIn;rw [show W.findIn K (.ref C) f=some none from n];rfl
structure vg(K:W.Frag)(C:Addr)(m:Str)(f:Addr):Prop where
 at_:W.findIn K (.ref C) m=some (some (.ref f))
 fn:W.isFn K (.ref f)=true
 kp:W.keepIn K (.ref f)=true
section
variable {X:Cx} {pins:List (Addr×Obj)} {σ:St} {H:Hp} {s:Shared} {a C dx:Addr} {fs:List (Str×V)} {f:Str} {v:V} {A:Around} {E:Value->Shared->Prop}
theorem rh{b:Bool}{Q:Value->Shared->Prop}(I:Inv X pins σ H s)(e:H a=some (.ins C dx fs))(c:Cls X.K C)(n:NoAttr X.K C f)(l:fs.lookup f=some v)
  (h:∀u s',Inv X pins σ H s'->RelV v u->Q u s'):wpAny (model X.prog X.w) A (getAttr (.ref a) f b) Q E s:=by
 obtain ⟨mA,O,r,_,_,_⟩:=mM I.hok e;obtain ⟨u,hu,ru⟩:=RelO.some_of (v:=v) (o:=mA f) (by rw [<- l];exact r f);exact B9 I.kIn O (c.get f) c.hd n hu (vz ru) (h u _ (I.tok _) ru)
theorem gY{m:Str}{g:Addr}{pl:Sem Bool}{Q:Value×List Value->Shared->Prop}(I:Inv X pins σ H s)(e:H a=some (.ins C dx fs))(c:Cls X.K C)(k:vg X.K C m g)(l:fs.lookup m=none)
  (h:Q (.ref g,[.ref a]) s):wpAny (model X.prog X.w) A (getMethod (.ref a) m pl) Q E s:=by
 obtain ⟨mA,O,r,_,_,_⟩:=mM I.hok e;have hn:mA m=none:=RelO.none_of (by rw [<- l];exact r m);exact xG I.kIn O (c.get m) k.at_ k.fn hn h
theorem rS{y:V}{u:Value}{Q:Unit->Shared->Prop}(I:Inv X pins σ H s)(e:H a=some (.ins C dx fs))(c:Cls X.K C)(n:NoAttr X.K C f)(hl:fs.length<1000)(ry:RelV y u)
  (h:∀s',Inv X pins σ (upd H a (.ins C dx (di f y fs))) s'->Q () s'):wpAny (model X.prog X.w) A (setAttr (.ref a) f u) Q E s:=by
 obtain ⟨mA,O,r,wi,_,ho⟩:=mM I.hok e;have hz:(fs.map (·.1)).length<=sizeLine:=by rw [zq1,sizeLine_eq];omega
 refine C8 I.kIn O c.sa c.po n.taker c.hd wi hz fun h' O' sb=>h _ ?_;have hd:∃o,h'.get? dx=some o:=let ⟨o,_,_,e',_⟩:=O'.ns;⟨o,e'⟩;refine I.write (x:=a) (e:=dx) (by rw [e];exact True.intro) (.inr ho) (fun b q hb z=>(sb.2 b hb).trans z) hd ?_;refine zAJ (by rw [aq O.ne];exact ho) ?_ O.ne O'.obj (zAC _ O'.ns (fun g=>?_) fun g hg=>?_)
 ·have:=jg f y fs;omega
 ·show RelO ((di f y fs).lookup g) (if g=f then some u else mA g);rw [jh]
  by_cases q:g=f
  ·rw [if_pos q,if_pos q];exact ry
  ·rw [if_neg q,if_neg q];exact r g
 ·by_cases q:g=f
  ·rw [q];exact (iW f y fs).1
  ·refine (iW f y fs).2 g (wi g fun z=>hg ?_);show (if g=f then some u else mA g)=none;rw [if_neg q];exact z
theorem Inv.made(I:Inv X pins σ H s):Inv X pins σ (upd (upd H s.heap.objs.size (.own (s.heap.objs.size+1))) (s.heap.objs.size+1) (.ins C s.heap.objs.size []))
  {s with heap:=(s.heap.push W.emptyDict).push (W.instObj C s.heap.objs.size)}:=by
 have e1:(s.heap.push W.emptyDict).get? s.heap.objs.size=some W.emptyDict:=dy s.heap rfl;have e2:((s.heap.push W.emptyDict).push (W.instObj C s.heap.objs.size)).get? (s.heap.objs.size+1)=some (W.instObj C s.heap.objs.size):=by have:=dy (s.heap.push W.emptyDict) (o:=W.instObj C s.heap.objs.size) rfl;rwa [lj] at this
 have e3:(s.heap.push W.emptyDict).Ns s.heap.objs.size (fun _=>none):=zAH W.emptyDict (#[]) _ e1 rfl (fun e he=>absurd he Jo) fun _=>rfl
 have I1:=I.laid (a:=s.heap.objs.size) (o:=.own (s.heap.objs.size+1)) (h':=s.heap.push W.emptyDict) (t':=s.toks) (fun b u q=>cy _ q) (zq0 _) ⟨_,e1⟩;refine I1.laid (a:=s.heap.objs.size+1) (o:=.ins C s.heap.objs.size []) (t':=s.toks) (fun b u q=>cy _ q) (x2 (lj _ _)) ?_;have ne:s.heap.objs.size≠s.heap.objs.size+1:=cD (Cr _);refine zAJ (by rw [aq ne,aj]) (ce _) ne e2 (zAC (fun _=>none) ((Heap.Ns1.of_empty e3).at fun o q=>cy _ q) (fun _=>True.intro) fun y hy=>absurd rfl hy)
theorem AT{prog:Program}{w:World}{env:Env}{e:Expr}{f:Str}{pos:Pos}{s:Shared}{Q:Value->Shared->Prop}(hb:attributeBase e f env (eval e env)=eval e env)
  (h:wpAny (model prog w) A (eval e env) (fun o s₁=>wpAny (model prog w) A (getAttr o f true) Q E s₁) E s):wpAny (model prog w) A (eval (.Attribute e f pos) env) Q E s:=
 Attribute_any_ h (by rw [arm_eval_Attribute,hb])
end
def Ih(K:W.Frag)(ta:TE)(f:Str):TE:=fun σ H Q=>ta σ H fun x H1=>∃a C dx fs v,x=.ref a/\H1 a=some (.ins C dx fs)/\Cls K C/\NoAttr K C f/\fs.lookup f=some v/\Q v H1
def Gm(K:W.Frag)(ta tv:TE)(f:Str):TS:=fun D σ H=>tv σ H fun y H1=>ta σ H1 fun x H2=>∃a C dx fs,x=.ref a/\H2 a=some (.ins C dx fs)/\Cls K C/\NoAttr K C f/\fs.length<1000/\
 D.nx σ (upd H2 a (.ins C dx (di f y fs)))
section
variable {X:Cx} {o e value:Expr} {f:Str} {pos pos' tpos:Pos} {ta tv:TE}
theorem CI{pl:Sem Bool}{m:Str}{apos:Pos}{args:List Expr}{pins:List (Addr×Obj)}{s:Shared}{σ:St}{H:Hp}{Q:Value->Shared->Prop}{te:TE}(he:PE X e te)(I:Inv X pins σ H s)
  (h:te σ H fun x H1=>∃a C dx fs g,x=.ref a/\H1 a=some (.ins C dx fs)/\Cls X.K C/\vg X.K C m g/\fs.lookup m=none/\
   ∀s1,Inv X pins σ H1 s1->wpAny (model X.prog X.w) X.A (callWith pos (.ref g) [.ref a] (backTo pos (starEach args X.env)) (backToKw pos (keywordEach [] X.env))) Q X.xe s1)
  (ht:eval (.Call (.Attribute e m apos) args [] pos) X.env=(do
   let ov <- eval e X.env
   standAt apos.atName
   let (f,first) <- holding [ov] (getMethod ov m pl)
   callWith pos f first (backTo pos (starEach args X.env)) (backToKw pos (keywordEach [] X.env)))) :
  wpAny (model X.prog X.w) X.A (eval (.Call (.Attribute e m apos) args [] pos) X.env) Q X.xe s:=by
 refine W.methodCall_KW (pl:=pl) (thn (he pins s σ H _ I h) fun u s1 hhx=>?_) ht;obtain ⟨x,H1,I1,rx,a,C,dx,fs,g,ex,ea,c,k,l,q⟩:=hhx;subst ex;obtain rfl:u=Value.ref a:=rx;exact gY I1 ea c k l (q s1 I1)
end
section
variable {X:Cx} {pins:List (Addr×Obj)} {σ:St} {H:Hp} {s:Shared} {A:Around} {E:Value->Shared->Prop} {Q:Value->Shared->Prop} {c:Value} {b:Bool}
end
end L2
namespace L2
structure Room(k:Nat)(A:Around):Prop where
 hd:A.handled=none
 dp:A.depth+3 * k+5<recursionLimit
 un:A.units+16 * k+200<cLine
theorem Room.mono{j k:Nat}{A:Around}(r:Room k A)(h:j<=k):Room j A:=⟨r.hd,by have:=r.dp;omega,by have:=r.un;omega⟩
theorem Room.m{n m:Nat}{A:Around}(h:Room n A)(l:m<=n:=by first | decide | omega):Room m A:=h.mono l
theorem Room.deeper{k:Nat}{A:Around}(r:Room (k+1) A)(env:Env):Room k (A.deeper env):=
 ⟨r.hd,by have:=r.dp;show A.depth+1+3 * k+5<_;omega,by have:=r.un;show A.units+3+16 * k+200<_;omega⟩
theorem rp{A:Around}{C:Addr}{us:List Value}{kw:List (Str×Value)}:(A.under (.builtin "type.__call__" ⟨.ref C::us,kw⟩)).depth=A.depth+1:=by first | rfl | simp [Around.under,Code.weight,Code.isCreation,Code.isGuard,Code.isCaller,Code.frames,Code.isFrame,guardIds]
theorem rq{A:Around}{C:Addr}{us:List Value}{kw:List (Str×Value)}:(A.under (.builtin "type.__call__" ⟨.ref C::us,kw⟩)).units=A.units+1:=by first | rfl | simp [Around.under,Code.cUnits,Code.frames,Code.isFrame]
theorem Room.make{k:Nat}{A:Around}(r:Room (k+1) A)(C:Addr)(us:List Value)(kw:List (Str×Value)):Room k (A.under (.builtin "type.__call__" ⟨.ref C::us,kw⟩)):=
 ⟨r.hd,by have:=r.dp;rw [rp];omega,by have:=r.un;rw [rq];omega⟩
theorem Room.depth{k:Nat}{A:Around}(r:Room k A):A.depth<recursionLimit:=by have:=r.dp;omega
theorem Room.units{k:Nat}{A:Around}(r:Room k A):A.units+64<cLine:=by have:=r.un;omega
theorem Room.units0{k:Nat}{A:Around}(r:Room k A):A.units<cLine:=by have:=r.un;omega
def qB:TA:=fun _ H Q=>Q [] H
def zM(ta:TE)(tr:TA):TA:=fun σ H Q=>ta σ H fun x H1=>tr σ H1 fun xs H2=>Q (x::xs) H2
section
variable {X:Cx} {e:Expr} {es:List Expr} {te:TE} {t:TA} {pos:Pos}
theorem yv:PA X [] qB:=fun _ _ _ _ H Q I h=>Calls.spliced_nil (zAA ([]) H I .nil h)
theorem tX(ha:PE X e te)(hr:PA X es t)(hs:starEach (e::es) X.env=(false,eval e X.env)::starEach es X.env:=by rfl):PA X (e::es) (zM te t):=by intro pos pins s σ H Q I h;rw [hs];show wpAny _ _ (spliced ((false,eval e X.env)::backTo pos (starEach es X.env))) _ _ s;refine Calls.spliced_cons (thn (ha pins s σ H _ I h) fun u s1 hhx=>?_);obtain ⟨x,H1,I1,r1,q1⟩:=hhx;exact thn (hr pos pins s1 σ H1 _ I1 q1) fun us s2 ⟨xs,H2,I2,r2,q2⟩=>zAA (x::xs) H2 I2 (.cons r1 r2) q2
def Il(t:TA):TE:=fun σ H Q=>t σ H fun xs H1=>xs.length<=sizeLine/\∀p,H1 p=none->Q (.ref p) (upd H1 p (.tup xs))
def Ii(t:TA):TE:=fun σ H Q=>t σ H fun xs H1=>xs.length<=sizeLine/\∀p,H1 p=none->Q (.ref p) (upd H1 p (.lst xs))
end
abbrev Sp:=List V->Hp->VK->XK->Prop
abbrev CXT:=List Env->Hp->Shared->XK->Value->Shared->Prop
structure Env0(P:Program)(w:World)(K:W.Frag)(mg:Str->Option Value)(base:Heap)(A:Around)(outer:List Env)(s:Shared)(H:Hp):Prop where
 frames:A.frames=some outer
 mod:Mod K mg base
 bs:∀b o,base.get? b=some o->s.heap.get? b=some o/\H b=none
 bsz:base.objs.size<=s.heap.objs.size
 funs:s.heap.FunFrames base outer
 frf:∀b∈frs outer,H b=none
 hok:HOk P w H s.heap
 bare:AllBare s.gens
def CE(outer:List Env)(P:Program)(w:World)(H:Hp)(s:Shared)(Q:VK)(u:Value)(s':Shared):Prop:=
 ∃v H',s'.os=s.os/\AllBare s'.gens/\Un (frs outer) [] H H' s.heap s'.heap/\HOk P w H' s'.heap/\RelV v u/\Q v H'
def CR(CX:CXT)(outer:List Env)(P:Program)(w:World)(H:Hp)(s:Shared)(Q:VK)(E:XK)(r:Result)(s':Shared):Prop:=
 match r with
 | .ok (.ret u)=>CE outer P w H s Q u s'
 | .ok _=>False
 | .error e=>CX outer H s E e s'
structure FnOk(P:Program)(w:World)(K:W.Frag)(mg:Str->Option Value)(base:Heap)(CX:CXT)(k:Nat)(f:Addr)(fd:FuncData)(ps:List Str)(sp:Sp):Prop where
 len:∀vs H Q E,sp vs H Q E->vs.length=ps.length
 run:∀(A:Around)(outer:List Env)(s:Shared)(H:Hp)(args:Args)(us:List Value)(vs:List V)(Q:VK)(E:XK),Room k A->Env0 P w K mg base A outer s H->BindsTo s fd args (ps.zip us)->Vals vs us->sp vs H Q E->
  codeAny (model P w) A (.call (.ref f) args) (CR CX outer P w H s Q E) s
theorem FnOk.mono{P:Program}{w:World}{K:W.Frag}{mg:Str->Option Value}{base:Heap}{CX:CXT}{j k:Nat}{f:Addr}{fd:FuncData}{ps:List Str}{sp:Sp}(F:FnOk P w K mg base CX j f fd ps sp)(h:j<=k):
  FnOk P w K mg base CX k f fd ps sp:=⟨F.len,fun A outer s H args us vs Q E hr=>F.run A outer s H args us vs Q E (hr.mono h)⟩
theorem Env0.make{P:Program}{w:World}{K:W.Frag}{mg:Str->Option Value}{base:Heap}{A:Around}{outer:List Env}{s:Shared}{H:Hp}(e:Env0 P w K mg base A outer s H)(C:Addr)(us:List Value)(kw:List (Str×Value)):
  Env0 P w K mg base (A.under (.builtin "type.__call__" ⟨.ref C::us,kw⟩)) outer s H:=⟨by first | exact e.frames | (simpa [Around.under,Code.envs,Code.isFrame,pushEnvs] using e.frames),e.mod,e.bs,e.bsz,e.funs,e.frf,e.hok,e.bare⟩
section
variable {X:Cx} {pins:List (Addr×Obj)} {σ:St} {H:Hp} {s s':Shared}
theorem Inv.env0(I:Inv X pins σ H s):Env0 X.prog X.w X.K X.mg X.base X.A X.stack s H:=
 ⟨I.ok.frames,I.ok.mod,I.bs,cR I.ok.bsz I.sz,I.stack,I.stkFree,I.hok,I.bare⟩
theorem Inv.after{Q:VK}{u:Value}(I:Inv X pins σ H s)(h:CE X.stack X.prog X.w H s Q u s'):EP X pins σ Q u s':=by obtain ⟨v,H',os,bare,un,hok,r,q⟩:=h;obtain ⟨hh,g,d,t,os'⟩:=s';obtain rfl:os'=s.os:=os;exact zAA v H' (I.call (h':=hh) (g':=g) (d':=d) (t':=t) (ch:=[]) un hok bare (fun b z=>absurd z Jo)) r q
end
def qA(sp:Sp)(dvs:List V)(E:XK)(t:TA):TE:=fun σ H Q=>t σ H fun vs H1=>sp (vs++dvs) H1 Q E
def iH(C:Addr)(m:Str)(sp:Sp)(dvs:List V)(E:XK)(ta:TE)(t:TA):TE:=fun σ H Q=>ta σ H fun x H1=>∃a dx fs,x=.ref a/\H1 a=some (.ins C dx fs)/\fs.lookup m=none/\
 t σ H1 fun vs H2=>sp (x::(vs++dvs)) H2 Q E
def kL(C:Addr)(sp:Sp)(dvs:List V)(E:XK)(t:TA):TE:=fun σ H Q=>t σ H fun vs H1=>∀x dx,H1 x=none->H1 dx=none->dx≠x->
 sp (.ref x::(vs++dvs)) (upd (upd H1 dx (.own x)) x (.ins C dx [])) (fun v H2=>v=.non/\Q (.ref x) H2) E
def Binds(K:W.Frag)(fd:FuncData)(ps:List Str)(ds:List Value):Prop:=
 ∀(s:Shared)(us:List Value),K.In s.heap->(us++ds).length=ps.length->BindsTo s fd ⟨us,[]⟩ (ps.zip (us++ds))
theorem Binds.all{K:W.Frag}{fd:FuncData}{ps:List Str}(h:∀us:List Value,us.length=ps.length->bindArgs fd ⟨us,[]⟩=pure (ps.zip us)):Binds K fd ps []:=fun s us _ hl=>by rw [iL] at hl ⊢;exact .of_eq (h us hl)
def fq(CX:CXT)(X:Cx)(E:XK):Prop:=∀(pins:List (Addr×Obj)) (σ:St) (H:Hp) (s:Shared) (e:Value) (s':Shared),Inv X pins σ H s->CX X.stack H s E e s'->X.xe e s'
section
variable {X:Cx} {CX:CXT} {k:Nat} {f C:Addr} {fd:FuncData} {ps:List Str} {sp:Sp} {dvs:List V} {ds:List Value} {E:XK} {x m:Str} {p pos apos:Pos} {e o:Expr} {es:List Expr} {ta:TE} {t:TA}
theorem rP{pins:List (Addr×Obj)}{σ:St}{H:Hp}{s:Shared}{Q:VK}{us:List Value}{vs:List V}(F:FnOk X.prog X.w X.K X.mg X.base CX k f fd ps sp)(hr:Room k X.A)(hb:Binds X.K fd ps ds)(hd:Vals dvs ds)(hx:fq CX X E)
  (I:Inv X pins σ H s) (r:Vals vs us) (h:sp (vs++dvs) H Q E):wpAny (model X.prog X.w) X.A (call (.ref f) us) (EP X pins σ Q) X.xe s:=by
 have r2:Vals (vs++dvs) (us++ds):=r.append hd;have hl:(us++ds).length=ps.length:=by rw [<- r2.length];exact F.len _ _ _ _ h
 refine wpAny_call (codeAny_mono (F.run X.A X.stack s H ⟨us,[]⟩ (us++ds) (vs++dvs) Q E hr I.env0 (hb s us I.kIn hl) r2 h) fun r s' hq=>?_)
 cases r with
 |error e=>exact hx pins σ H s e s' I hq
 |ok fl=>
  cases fl with
  |ret u=>exact I.after hq
  |next=>exact False.elim hq
  |brk=>exact False.elim hq
  |cont=>exact False.elim hq
theorem BC(F:FnOk X.prog X.w X.K X.mg X.base CX k f fd ps sp)(hr:Room k X.A)(hg:Gl X x)(hm:X.mg x=some (.ref f))(hk:W.keepIn X.K (.ref f)=true)(hb:Binds X.K fd ps ds)(hd:Vals dvs ds)(hx:fq CX X E)
  (ha:PA X (e::es) t) (hdb:(x==("__debug__":Str))=false:=by decide) (he:starEach (e::es) X.env=(false,eval e X.env)::starEach es X.env:=by rfl) (hpl:(backTo pos (starEach es X.env)).any (·.1)=false:=by rfl) :
  PE X (.Call (.Name x p) (e::es) [] pos) (qA sp dvs E t):=by
 intro pins s σ H Q I h;refine wpAny_Call_Name_kw (iq I hg hm ?_ hdb);refine W.callWith_K (h₀:=X.base) I.ok.mod.kin hk (thn (ha pos pins s σ H _ I h) fun us s1 ⟨vs,H1,I1,r,q⟩=>⟨I1.kIn,?_⟩) he hpl;exact rP F hr hb hd hx I1 r q
theorem tY{pl:Sem Bool}(he:PE X o ta)(c:Cls X.K C)(hm:vg X.K C m f)(F:FnOk X.prog X.w X.K X.mg X.base CX k f fd ps sp)(hr:Room k X.A)(hb:Binds X.K fd ps ds)(hd:Vals dvs ds)(hx:fq CX X E)(ha:PA X (e::es) t)
  (hst:starEach (e::es) X.env=(false,eval e X.env)::starEach es X.env:=by rfl) (hpl:(backTo pos (starEach es X.env)).any (·.1)=false:=by rfl)
  (ht:eval (.Call (.Attribute o m apos) (e::es) [] pos) X.env=(do
   let ov <- eval o X.env
   standAt apos.atName
   let (f,first) <- holding [ov] (getMethod ov m pl)
   callWith pos f first (backTo pos (starEach (e::es) X.env)) (backToKw pos (keywordEach [] X.env))):=by rfl) :
  PE X (.Call (.Attribute o m apos) (e::es) [] pos) (iH C m sp dvs E ta t):=by
 intro pins s σ H Q I h;refine W.methodCall_KW (pl:=pl) (thn (he pins s σ H _ I h) fun u s1 hhx=>?_) ht;obtain ⟨x,H1,I1,rx,a,dx,fs,ex,ea,l,q⟩:=hhx;subst ex;obtain rfl:u=Value.ref a:=rx;refine gY I1 ea c hm l ?_;refine W.callWith_K (first:=[.ref a]) (h₀:=X.base) I.ok.mod.kin hm.kp (thn (ha pos pins s1 σ H1 _ I1 q) fun us s2 ⟨vs,H2,I2,r,q2⟩=>⟨I2.kIn,?_⟩) hst hpl;exact rP (us:=.ref a::us) (vs:=.ref a::vs) F hr hb hd hx I2 (.cons rfl r) q2
theorem yC{pl:Sem Bool}(he:PE X o ta)(c:Cls X.K C)(hm:vg X.K C m f)(F:FnOk X.prog X.w X.K X.mg X.base CX k f fd ps sp)(hr:Room k X.A)(hb:Binds X.K fd ps ds)(hd:Vals dvs ds)(hx:fq CX X E)
  (ht:eval (.Call (.Attribute o m apos) [] [] pos) X.env=(do
   let ov <- eval o X.env
   standAt apos.atName
   let (f,first) <- holding [ov] (getMethod ov m pl)
   callWith pos f first (backTo pos (starEach [] X.env)) (backToKw pos (keywordEach [] X.env))):=by rfl) :
  PE X (.Call (.Attribute o m apos) [] [] pos) (iH C m sp dvs E ta qB):=by
 intro pins s σ H Q I h;refine W.methodCall_KW (pl:=pl) (thn (he pins s σ H _ I h) fun u s1 hhx=>?_) ht;obtain ⟨x,H1,I1,rx,a,dx,fs,ex,ea,l,q⟩:=hhx;subst ex;obtain rfl:u=Value.ref a:=rx;refine gY I1 ea c hm l ?_;exact W.callWith_K0 (first:=[.ref a]) I1.kIn hm.kp (rP (us:=[.ref a]) (vs:=[.ref a]) F hr hb hd hx I1 (.cons rfl .nil) q)
structure Mk(K:W.Frag)(C f:Addr):Prop where
 makes:W.makesIn K C=true
 init:W.findIn K (.ref C) "__init__"=some (some (.ref f))
 fn:W.isFn K (.ref f)=true
 kp:W.keepIn K (.ref C)=true
theorem pP{pins:List (Addr×Obj)}{σ:St}{H:Hp}{s:Shared}{Q:VK}{us:List Value}{vs:List V}(M:Mk X.K C f)(F:FnOk X.prog X.w X.K X.mg X.base CX k f fd ps sp)(hr:Room (k+1) X.A)(hb:Binds X.K fd ps ds)(hd:Vals dvs ds)
  (hx:fq CX X E) (I:Inv X pins σ H s) (r:Vals vs us)
  (h:∀x dx,H x=none->H dx=none->dx≠x->sp (.ref x::(vs++dvs)) (upd (upd H dx (.own x)) x (.ins C dx [])) (fun v H2=>v=.non/\Q (.ref x) H2) E) :
  wpAny (model X.prog X.w) X.A (call (.ref C) us) (EP X pins σ Q) X.xe s:=by
 have hq:=h (s.heap.objs.size+1) s.heap.objs.size (I.hok.fresh (qK _)) (I.hok.fresh (zq0 _)) (cD (Cr _));have I2:=Inv.made (C:=C) I;have r2:Vals (V.ref (s.heap.objs.size+1)::(vs++dvs)) (Value.ref (s.heap.objs.size+1)::(us++ds)):=.cons rfl (r.append hd);have hl:(Value.ref (s.heap.objs.size+1)::us++ds).length=ps.length:=by have e:=r2.length;rw [F.len _ _ _ _ hq] at e;exact e.symm
 refine wpAny_call (xV (f:=f) I.kIn M.makes M.init (beq_iff_eq.mp M.fn) (codeAny_mono (F.run _ X.stack _ _ ⟨Value.ref (s.heap.objs.size+1)::us,[]⟩ (Value.ref (s.heap.objs.size+1)::(us++ds)) _ _ E (hr.make C us [])
  (I2.env0.make C us []) (hb _ (Value.ref (s.heap.objs.size+1)::us) I2.kIn hl) r2 hq) fun r s' hq'=>?_))
 cases r with
 |error e=>exact hx pins σ _ _ e s' I2 hq'
 |ok fl=>
  cases fl with
  |ret u=>
   obtain ⟨v,H',I3,rv,ev,q3⟩:=I2.after hq';subst ev;exact ⟨rv,zAA (V.ref (s.heap.objs.size+1)) H' I3 rfl q3⟩
  |next=>exact False.elim hq'
  |brk=>exact False.elim hq'
  |cont=>exact False.elim hq'
theorem BE(M:Mk X.K C f)(F:FnOk X.prog X.w X.K X.mg X.base CX k f fd ps sp)(hr:Room (k+1) X.A)(hg:Gl X x)(hm:X.mg x=some (.ref C))(hb:Binds X.K fd ps ds)(hd:Vals dvs ds)(hx:fq CX X E)
  (ha:PA X (e::es) t) (hdb:(x==("__debug__":Str))=false:=by decide) (he:starEach (e::es) X.env=(false,eval e X.env)::starEach es X.env:=by rfl) (hpl:(backTo pos (starEach es X.env)).any (·.1)=false:=by rfl) :
  PE X (.Call (.Name x p) (e::es) [] pos) (kL C sp dvs E t):=by
 intro pins s σ H Q I h;refine wpAny_Call_Name_kw (iq I hg hm ?_ hdb);refine W.callWith_K (h₀:=X.base) I.ok.mod.kin M.kp (thn (ha pos pins s σ H _ I h) fun us s1 ⟨vs,H1,I1,r,q⟩=>⟨I1.kIn,?_⟩) he hpl;exact pP M F hr hb hd hx I1 r q
theorem yB(M:Mk X.K C f)(F:FnOk X.prog X.w X.K X.mg X.base CX k f fd ps sp)(hr:Room (k+1) X.A)(hg:Gl X x)(hm:X.mg x=some (.ref C))(hb:Binds X.K fd ps ds)(hd:Vals dvs ds)(hx:fq CX X E)
  (hdb:(x==("__debug__":Str))=false:=by decide):PE X (.Call (.Name x p) [] [] pos) (kL C sp dvs E qB):=by
 intro pins s σ H Q I h;refine wpAny_Call_Name_kw (iq I hg hm ?_ hdb);exact W.callWith_K0 I.kIn M.kp (pP (us:=[]) M F hr hb hd hx I .nil h)
end
section
variable {X:Cx} {CX:CXT} {k:Nat} {f C:Addr} {fd:FuncData} {ps ks:List Str} {sp:Sp} {E:XK} {x m:Str} {p pos apos kpos:Pos} {e o:Expr} {es:List Expr} {kws:List Keyword} {te ta:TE} {t tk:TA} {nm:Option Str}
variable {g:List Value->List Value->List Value} {gV:List V->List V->List V}
end
structure aE(N P:List Str)(sc:Scope):Prop where
 kind:sc.kind=.function
 co:sc.isCoroutine=false
 gen:sc.isGenerator=false
 nd:N.Nodup
 pre:N.take P.length=P
 par:∀x∈P,sc.names.lookup x=some .local\/sc.names.lookup x=some .cell
 nofree:∀y∈sc.names,y.2≠.free
theorem lJ{kindOf:Str->Option NameKind}{x:Str}:∀{binds:List (Str×Value)} {m:Str->Option Value},(∀v,(x,v)∉binds)->bindL kindOf binds m x=m x
 | [],_,_=>rfl
 | (n,v)::r,m,h=>by
  unfold bindL;rw [lJ fun w hw=>h w (zq9 _ hw)]
  split
  ·have:x≠n:=by rintro rfl;exact h v eL
   simp [this]
  ·rfl
theorem lH{kindOf:Str->Option NameKind}{x:Str}:∀{binds:List (Str×Value)} {m:Str->Option Value},(∀v,(x,v)∉binds)->bindC kindOf binds m x=m x
 | [],_,_=>rfl
 | (n,v)::r,m,h=>by
  unfold bindC;rw [lH fun w hw=>h w (zq9 _ hw)]
  split
  ·rfl
  ·have:x≠n:=by rintro rfl;exact h v eL
   simp [this]
theorem lI{kindOf:Str->Option NameKind}{x:Str}{v:Value}:∀{P:List Str} {vs:List Value} {i:Nat} {m:Str->Option Value},P.Nodup->P[i]?=some x->vs[i]?=some v->kindOf x=some .local->
  bindL kindOf (P.zip vs) m x=some v
 | [],_,_,_,_,h,_,_=>by simp at h
 |_::_,[],_,_,_,_,h,_=>by simp at h
 |p::P,w::vs,0,m,nd,h1,h2,hk=>by
  simp at h1 h2;subst h1;subst h2;show bindL kindOf ((p,w)::P.zip vs) m p=_;unfold bindL;rw [lJ fun v hv=>(zq41.mp nd).1 (Ae hv).1,if_pos hk];simp
 |p::P,w::vs,i+1,m,nd,h1,h2,hk=>by show bindL kindOf ((p,w)::P.zip vs) m x=_;unfold bindL;exact lI (i:=i) (zq41.mp nd).2 (by simpa using h1) (by simpa using h2) hk
theorem lG{kindOf:Str->Option NameKind}{x:Str}{v:Value}:∀{P:List Str} {vs:List Value} {i:Nat} {m:Str->Option Value},P.Nodup->P[i]?=some x->vs[i]?=some v->kindOf x≠some .local->
  bindC kindOf (P.zip vs) m x=some v
 | [],_,_,_,_,h,_,_=>by simp at h
 |_::_,[],_,_,_,_,h,_=>by simp at h
 |p::P,w::vs,0,m,nd,h1,h2,hk=>by
  simp at h1 h2;subst h1;subst h2;show bindC kindOf ((p,w)::P.zip vs) m p=_;unfold bindC;rw [lH fun v hv=>(zq41.mp nd).1 (Ae hv).1,if_neg hk];simp
 |p::P,w::vs,i+1,m,nd,h1,h2,hk=>by show bindC kindOf ((p,w)::P.zip vs) m x=_;unfold bindC;exact lG (i:=i) (zq41.mp nd).2 (by simpa using h1) (by simpa using h2) hk
def aL(N:List Str)(vs:List V):St:=vs.map some++List.replicate (N.length-vs.length) none
def qW(CX:CXT)(P:Program)(w:World)(K:W.Frag)(mg:Str->Option Value)(base:Heap)(N:List Str)(qual:Str)(scope:Scope)(f:Addr)(cd:Value)(A:Around)(outer:List Env)(s:Shared)(H:Hp)(E:XK):Cx where
 prog:=P
 w:=w
 K:=K
 mg:=mg
 base:=base
 A:=A.deeper (envOfC qual scope s.heap.objs.size f cd)
 N:=N
 s₀:=s
 H₀:=H
 env:=envOfC qual scope s.heap.objs.size f cd
 outer:=outer
 stack:=envOfC qual scope s.heap.objs.size f cd::outer
 ex:=[]
 calm:=true
 fn:=fun _=>true
 pn:=[]
 xe:=fun e s'=>wpAny (model P w) (A.deeper (envOfC qual scope s.heap.objs.size f cd)) (leaving (envOfC qual scope s.heap.objs.size f cd) e) (fun _ s''=>CX outer H s E e s'') (fun e' s''=>CX outer H s E e' s'') s'
theorem ow{sc:Scope}{n:Nat}{x:Str}(h:sc.names.lookup x=some .cell):∃c,(cellsFrom n sc.names []).lookup x=some c:=by have q:=W.cellsFrom_some sc.names n [] (.inl h);exact zq137.mp q
theorem vC{CX:CXT}{P:Program}{w:World}{K:W.Frag}{mg:Str->Option Value}{base:Heap}{N ps:List Str}{qual:Str}{scope:Scope}{f:Addr}{cd:Value}{A:Around}{outer:List Env}{s s1:Shared}{H:Hp}{E:XK}{us:List Value}{vs:List V}
  (S:aE N ps scope) (hd:A.handled=none) (e0:Env0 P w K mg base A outer s H) (hl:vs.length=ps.length) (r:Vals vs us)
  (x:InCallC s s.heap.objs.size (bindL (envOfC qual scope s.heap.objs.size f cd).kindOf (ps.zip us) fun _=>none) (cellsFrom (s.heap.objs.size+1) scope.names []) (bindC (envOfC qual scope s.heap.objs.size f cd).kindOf (ps.zip us) fun _=>none) s1) :
  Inv (qW CX P w K mg base N qual scope f cd A outer s H E) [] (aL N vs) H s1:=by
 have hpl:ps.length<=N.length:=by have:=congrArg List.length S.pre;rw [dE] at this;omega
 obtain ⟨h1,tk,rfl,hk⟩:=x.done;have noA:∀b:Addr,b∉(qW CX P w K mg base N qual scope f cd A outer s H E).ex:=fun b z=>absurd (show b∈([]:List Addr) from z) Jo;refine ⟨⟨e0.mod,S.kind,rfl,rfl,zq0 _,fun y z c h1 h2=>?_,fun y hy=>?_,fun y c _ h=>?_,fun _=>hd,Around.frames_deeper e0.frames,.inr ⟨rfl,rfl⟩,fun b z=>absurd z (noA b),e0.bs,e0.bsz,fun b _ _=>noA b,fun b z=>absurd z (noA b),e0.funs,e0.frf⟩,
  rfl,e0.bare,Un.kept hk,zn _ x.toInCall.ns fun i y v h1 h2 h3=>?_,fun y c h=>⟨_,x.cell y c h⟩,e0.hok.fresh (zq0 _),fun y c h=>?_,fun p hp=>absurd (show p∈([]:List (Addr×Obj)) from hp) Jo,e0.hok.kept hk,?_⟩
 ·exact name_of_addr x.apart (PySem.mem_of_lookup h1) (PySem.mem_of_lookup h2)
 ·have hy:scope.names.lookup y=some .cell\/scope.names.lookup y=some .free:=hy;rcases hy with hy | hy
  ·exact ow hy
  ·exact absurd rfl (S.nofree _ (PySem.mem_of_lookup hy))
 ·exact nK (x.above y c (PySem.mem_of_lookup h))
 ·have hi:i<vs.length:=by
   unfold aL at h2
   by_cases hi:i<vs.length
   ·exact hi
   ·rw [j9 (by simpa using hi)] at h2;rw [Af] at h2
    split at h2<;>cases h2
  have ha:vs[i]?=some v:=by
   unfold aL at h2;rw [jr (by simpa using hi),cf] at h2
   cases e:vs[i]? with
   |none=>rw [e] at h2;cases h2
   |some a=>rw [e] at h2;cases h2;rfl
  obtain ⟨u,hu,rv⟩:=r.get ha;have hp:ps[i]?=some y:=by rw [<- S.pre,List.getElem?_take_of_lt Jn];exact h1
  have ndP:ps.Nodup:=by rw [<- S.pre];exact S.nd.sublist (List.take_sublist _ _)
  refine zn u rv ?_;rcases S.par y (zq4 hp) with k | k
  ·exact .inl ⟨k,lI ndP hp hu k⟩
  ·obtain ⟨c,e⟩:=ow (n:=s.heap.objs.size+1) k;refine .inr ⟨.inl k,zn c e ?_⟩;have q:=x.cell y c e;rw [lG ndP hp hu (by show scope.names.lookup y≠_;rw [k];decide)] at q;exact q
 ·exact e0.hok.fresh (nK (x.above y c (PySem.mem_of_lookup h)))
 ·unfold aL;show _=N.length;rw [zq3,zq1,Ag];omega
theorem Ff{CX:CXT}{P:Program}{w:World}{K:W.Frag}{mg:Str->Option Value}{base:Heap}{k:Nat}{f:Addr}{name qual:Str}{params:Arguments}{body:List Stmt}{scope:Scope}{dV kV doc pm cdv ct oc:Value}{an od:Option Addr}
  {osl:Array (Option Value)} {N ps:List Str} {sp:Sp} (lk:K.lookup f=some ⟨oc,od,.func (W.fnOf name qual params body scope dV kV doc pm an cdv ct),osl⟩) (hcd:W.codeIn K cdv qual=true) (S:aE N ps scope)
  (len:∀vs H Q E,sp vs H Q E->vs.length=ps.length)
  (hbody:∀(A:Around)(outer:List Env)(s:Shared)(H:Hp)(vs:List V)(Q:VK)(E:XK),Room k (A.deeper (envOfC qual scope s.heap.objs.size f cdv))->sp vs H Q E->
   ∃t,PSs (qW CX P w K mg base N qual scope f cdv A outer s H E) body t/\t {nx:=fun _ H'=>Q .non H',rt:=Q} (aL N vs) H) :
  FnOk P w K mg base CX (k+1) f (W.fnOf name qual params body scope dV kV doc pm an cdv ct) ps sp:=by
 refine ⟨len,fun A outer s H args us vs Q E hr e0 hb r hsp=>?_⟩;have hl:=len _ _ _ _ hsp;have KX:K.In s.heap:=e0.mod.kin.keeps fun b o e=>(e0.bs b o e).1;have lim:s.heap.NoLimit:=e0.mod.nolimit.keeps fun b o e=>(e0.bs b o e).1;have hkind:∀y∈ps.zip us,scope.names.lookup y.1=some .local\/(scope.names.lookup y.1=some .cell/\((cellsFrom (s.heap.objs.size+1) scope.names []).lookup y.1).isSome=true):=fun ⟨n,v⟩ hy=>by
  rcases S.par n (Ae hy).1 with q | q
  ·exact .inl q
  ·exact .inr ⟨q,W.cellsFrom_some _ _ _ (.inl q)⟩
 refine codeAny_call_function hr.depth (KX _ _ lk) rfl S.co S.gen rfl (W.codeRec_of KX hcd) (hb _ _ _ _ ?_);refine wpAny_newFunctionEnv_cells S.kind hkind fun env he s1 x=>?_;subst he;refine ⟨lim.keeps x.toInCall.keep,codeAny_func ?_⟩;obtain ⟨t,ht,hq⟩:=hbody A outer s H vs Q E (hr.deeper _) hsp;have I:Inv (qW CX P w K mg base N qual scope f cdv A outer s H E) [] (aL N vs) H s1:=vC S hr.hd e0 hl r x;refine wpAny_mono (ht [] s1 (aL N vs) H _ I hq) (fun fl s' hs=>?_) fun e s' hs=>hs;have fin:∀{σ':St} {H':Hp} {v:V} {u:Value},Inv (qW CX P w K mg base N qual scope f cdv A outer s H E) [] σ' H' s'->RelV v u->Q v H'->CE outer P w H s Q u s':=
  fun {σ' H' v u} J rv q=>zBF v H' J.os J.bare J.base J.hok rv q
 cases fl with
 |ret u=>
  obtain ⟨v,σ',H',J,rv,q⟩:=hs;exact fin J rv q
 |next=>
  obtain ⟨σ',H',J,q⟩:=hs;exact fin (v:=V.non) (u:=Value.none) J rfl q
 |brk=>
  obtain ⟨_,_,_,q⟩:=hs;exact False.elim q
 |cont=>obtain ⟨_,_,_,q⟩:=hs;exact False.elim q
end L2
namespace L2
section
variable {X:Cx} {x:Str} {p pos:Pos} {e:Expr} {es:List Expr} {t:TA} {id T:String} {r:List V->Hp->VK->Prop}
def tCB(r:List V->Hp->VK->Prop)(t:TA):TE:=fun σ H Q=>t σ H fun vs H1=>r vs H1 Q
theorem yw(hc:eA X (.builtin id) r)(hg:Gl X x)(hm:X.mg x=none)(hv:bootBuiltins x=some (.builtin id))(ha:PA X (e::es) t)(hn:x≠"__name__":=by decide) (hdb:(x==("__debug__":Str))=false:=by decide)
  (he:starEach (e::es) X.env=(false,eval e X.env)::starEach es X.env:=by rfl) (hpl:(backTo pos (starEach es X.env)).any (·.1)=false:=by rfl):PE X (.Call (.Name x p) (e::es) [] pos) (tCB r t):=by
 intro pins s σ H Q I h;refine wpAny_Call_Name_kw (dH I hg hm hv ?_ hn hdb);exact PyProof.Rows.callWith_builtin1 (thn (ha pos pins s σ H _ I h) fun us s1 ⟨vs,H1,I1,r1,q1⟩=>hc pins s1 σ H1 vs us Q I1 r1 q1) he hpl
theorem we(hc:eA X (.type T) r)(hg:Gl X x)(hm:X.mg x=none)(hv:bootBuiltins x=some (.type T))(ha:PA X (e::es) t)(hn:x≠"__name__":=by decide) (hdb:(x==("__debug__":Str))=false:=by decide)
  (he:starEach (e::es) X.env=(false,eval e X.env)::starEach es X.env:=by rfl) (hpl:(backTo pos (starEach es X.env)).any (·.1)=false:=by rfl):PE X (.Call (.Name x p) (e::es) [] pos) (tCB r t):=by
 intro pins s σ H Q I h;refine wpAny_Call_Name_kw (dH I hg hm hv ?_ hn hdb);exact PyProof.Rows.callWith_type1 (thn (ha pos pins s σ H _ I h) fun us s1 ⟨vs,H1,I1,r1,q1⟩=>hc pins s1 σ H1 vs us Q I1 r1 q1) he hpl
end
end L2
end
namespace HT
open PySem PyProof.Rows
section
open PySem.SeqAt
open PySem.AutoSeq1 (wpAny_loadPart')
open PySem.MeetsSeq PySem.MeetsSeq2 PySem.MeetsSeq3
end
section
variable {prog:Program} {w:World} {A:Around} {E:Value->Shared->Prop} {s:Shared}
def sIx(n d:Nat):Option Int->Nat
 |none=>d
 |some v=>if v<0 then (v+(n:Int)).toNat else min v.toNat n
theorem kB(n d:Nat):sIx n d none=d:=rfl
theorem jB(n d k:Nat):sIx n d (some (k:Int))=min k n:=by show (if (k:Int)<0 then ((k:Int)+(n:Int)).toNat else min (k:Int).toNat n)=min k n;rw [if_neg Jn,eh]
theorem ES(n d:Nat)(hd:d<=n)(o:Option Int):sIx n d o<=n:=by
 cases o with
 |none=>exact hd
 |some v=>
  show (if v<0 then (v+(n:Int)).toNat else min v.toNat n)<=n
  by_cases hv:v<0
  ·rw [if_pos hv];omega
  ·rw [if_neg hv];exact Cs _ _
theorem tu(v:Int)(n d:Nat):(if v<0 then max (v+(n:Int)) 0 else min v (n:Int))=((sIx n d (some v):Nat):Int):=by
 show (if v<0 then max (v+(n:Int)) 0 else min v (n:Int))=(((if v<0 then (v+(n:Int)).toNat else min v.toNat n):Nat):Int)
 by_cases hv:v<0
 ·simp only [if_pos hv];omega
 ·simp only [if_neg hv];omega
theorem qS(lo hi:Option Int)(n:Nat):Builtin.Slice.sliceAdjust lo hi 1 (n:Int)=(((sIx n 0 lo:Nat):Int),((sIx n n hi:Nat):Int)):=by
 have h1:¬((1:Int)<0):=by omega
 unfold Builtin.Slice.sliceAdjust;simp only [h1,if_false];refine Prod.ext ?_ ?_
 ·cases lo with
  |none=>rfl
  |some v=>exact tu v n 0
 ·cases hi with
  |none=>rfl
  |some v=>exact tu v n n
theorem rJ(i j:Nat):Builtin.Slice.slicePlaces (i:Int) (j:Int) 1=j-i:=by
 unfold Builtin.Slice.slicePlaces;have h1:(1:Int)>0:=by omega
 simp only [h1,if_true,Int.ediv_one]
 split<;>omega
theorem kE{v:Value}{o:Option Int}{Q:Option Int->Shared->Prop}(p:IsPart v o)(h:Q o s):wpAny (model prog w) A (Builtin.Slice.slicePartIndex v) Q E s:=by
 cases p with
 |none=>exact slicePart_none h
 |int i t=>exact slicePart_int h
theorem j0{sl:Addr}{vl vu:Value}{lo hi:Option Int}{n:Nat}{Q:Int×Int×Nat->Shared->Prop}(hs:s.heap.IsSliceOf sl vl vu .none)(pl:IsPart vl lo)(pu:IsPart vu hi)
  (h:Q (((sIx n 0 lo:Nat):Int),1,sIx n n hi-sIx n 0 lo) s):wpAny (model prog w) A (Builtin.Slice.sliceApplied (.ref sl) (pure (n:Int))) Q E s:=by
 obtain ⟨os,hos,hcs,hds⟩:=id hs;unfold Builtin.Slice.sliceApplied Builtin.Slice.sliceFields;refine wpAny_bind (wpAny_bind (wpAny_field hos hds (x:=vl) rfl (wpAny_bind (wpAny_field hos hds (x:=vu) rfl (wpAny_bind (wpAny_field hos hds (x:=.none) rfl (wpAny_pure ?_)))))));refine wpAny_bind (slicePart_none ?_);show wpAny _ _ (if ((1:Int)==0)=true then _ else _) _ _ s;rw [if_neg Jm];refine wpAny_bind (kE pl (wpAny_bind (kE pu (wpAny_bind (wpAny_pure ?_)))));show wpAny _ _ (match Builtin.Slice.sliceAdjust lo hi 1 (n:Int) with | (lo,hi)=>pure (lo,(1:Int),Builtin.Slice.slicePlaces lo hi 1)) _ _ s;rw [qS lo hi n];show wpAny _ _ (pure (((sIx n 0 lo:Nat):Int),(1:Int),Builtin.Slice.slicePlaces ((sIx n 0 lo:Nat):Int) ((sIx n n hi:Nat):Int) 1)) _ _ s;rw [rJ];exact wpAny_pure h
theorem yF(xs:Array Value)(i k:Nat):((List.range k).filterMap fun (m:Nat)=>xs[((i:Int)+(m:Int) * 1).toNat]?).toArray=((xs.toList.drop i).take k).toArray:=by
 have e:(fun (m:Nat)=>xs[((i:Int)+(m:Int) * 1).toNat]?)=fun m=>xs[i+m]?:=by
  funext m
  have:((i:Int)+(m:Int) * 1).toNat=i+m:=by omega
  rw [this]
 rw [e];have:=pick_run xs i k;rw [List.filterMap_map] at this;have e2:((fun x=>xs[x]?) ∘ fun x=>i+x)=fun m=>xs[i+m]?:=rfl;rw [e2] at this;rw [this]
theorem il{t sl:Addr}{items:Array Value}{vl vu:Value}{lo hi:Option Int}{Q:Value->Shared->Prop}(ht:IsTup s.heap t items)(hs:s.heap.IsSliceOf sl vl vu .none)(pl:IsPart vl lo)(pu:IsPart vu hi)
  (hw:¬(sIx items.size 0 lo=0/\sIx items.size items.size hi=items.size))
  (h:Q (.ref s.heap.objs.size) {s with heap:=s.heap.push {cls:=.type "tuple",data:=.seq ((items.toList.drop (sIx items.size 0 lo)).take (sIx items.size items.size hi-sIx items.size 0 lo)).toArray}})
  (hsz:items.size<=sizeLine):wpAny (model prog w) A (getItem (.ref t) (.ref sl)) Q E s:=by
 have htake:sizeOk (.seq ((items.toList.drop (sIx items.size 0 lo)).take (sIx items.size items.size hi-sIx items.size 0 lo)).toArray):=by show ((items.toList.drop (sIx items.size 0 lo)).take (sIx items.size items.size hi-sIx items.size 0 lo)).toArray.size<=sizeLine;rw [fL,dE,AG,Ah];omega
 have hj:sIx items.size items.size hi<=items.size:=ES _ _ (zq0 _) hi;obtain ⟨os,hos,hcs,hds⟩:=id hs;have hTs:s.TypeIs (.ref sl) "slice":=zn os hos hcs
 unfold getItem
 try with_reducible refine wpAny_holding ?_
 first | refine wpAny_bind (wpAny_pure ?_) | skip
 refine wpAny_bind (wpAny_sequenceKey ht.typeIs Jm ?_);refine wpAny_bind (wpAny_callSpecial?_slot (name:=Str.ofString "__getitem__") ht.typeIs PyProof.Rows.slot_tuple_getitem
  (wpAny_call_entry PyProof.Rows.slot_tuple_getitem ht.typeIs entry_tuple_getitem ?_ (args_tuple_getitem _ _)))
 show wpAny _ _ (Builtin.Tuple.tupleItemsOf (.ref t) >>= _) _ _ s;refine wpAny_bind (tupleItemsOf_ ht ?_);refine wpAny_bind (wpAny_typeOf hTs ?_);rw [if_pos Jm];refine wpAny_bind (j0 hs pl pu ?_);have hno:¬((((sIx items.size 0 lo:Nat):Int)==0&&(1:Int)==1&&(sIx items.size items.size hi-sIx items.size 0 lo)==items.size)=true):=by intro q;rw [dF,dF] at q;have q1:((sIx items.size 0 lo:Nat):Int)=0:=eq_of_beq q.1.1;have q2:sIx items.size items.size hi-sIx items.size 0 lo=items.size:=eq_of_beq q.2;exact hw ⟨Jn,Jn⟩
 show wpAny _ _ (if (((sIx items.size 0 lo:Nat):Int)==0&&(1:Int)==1&&(sIx items.size items.size hi-sIx items.size 0 lo)==items.size)=true then _ else _) _ _ s;rw [if_neg hno,yF]
 first
  |exact wpAny_bind (m:=Builtin.Tuple.tupleExact _) (wpAny_newObj_type (wpAny_pure ⟨_,rfl,wpAny_pure h⟩) htake)
  |exact wpAny_bind (m:=Builtin.Tuple.tupleExact _) (wpAny_newObj_type (wpAny_bind (wpAny_pure (wpAny_pure ⟨_,rfl,wpAny_pure h⟩))) htake)
  |exact wpAny_bind (wpAny_bind (m:=Builtin.Tuple.tupleExact _) (wpAny_newObj_type (wpAny_pure (wpAny_pure ⟨_,rfl,wpAny_pure h⟩)) htake))
  |exact wpAny_bind (wpAny_bind (m:=Builtin.Tuple.tupleExact _) (wpAny_newObj_type (wpAny_pure ⟨_,rfl,wpAny_pure h⟩) htake))
end
end HT
section
open PySem PySem.Spec PyProof.Rows
namespace L2
abbrev TO:=St->Hp->(Option Int->Hp->Prop)->Prop
def PO(X:Cx)(e:Option Expr)(t:TO):Prop:=
 ∀(pins:List (Addr×Obj)) (s:Shared) (σ:St) (H:Hp) (Q:Option Int->Hp->Prop),Inv X pins σ H s->t σ H Q->
  wpAny (model X.prog X.w) X.A (evalPart e X.env) (fun u s'=>∃o H',Inv X pins σ H' s'/\IsPart u o/\Q o H') X.xe s
def uQ:TO:=fun _ H Q=>Q none H
def D1(t:TE):TO:=fun σ H Q=>t σ H fun x H1=>∃i,x=.int i/\Q (some i) H1
section
variable {X:Cx} {e:Expr} {te:TE} {lo hi:Option Expr} {tl th:TO} {pos p2:Pos}
def SlR(X:Cx)(r:V->Option Int->Option Int->Hp->VK->Prop):Prop:=
 ∀(pins:List (Addr×Obj)) (s:Shared) (σ:St) (H:Hp) (x:V) (v vl vu:Value) (lo hi:Option Int) (sl:Addr) (Q:VK),Inv X pins σ H s->RelV x v->s.heap.IsSliceOf sl vl vu .none->IsPart vl lo->IsPart vu hi->r x lo hi H Q->
  ∃T id,typeLookup (.type T) "__getitem__"=pure (some (.builtin id))/\s.TypeIs v T/\wpAny (model X.prog X.w) X.A (getItem v (.ref sl)) (EP X pins σ Q) X.xe s
def tSl(r:V->Option Int->Option Int->Hp->VK->Prop)(te:TE)(tl th:TO):TE:=fun σ H Q=>te σ H fun x H1=>tl σ H1 fun l H2=>th σ H2 fun u H3=>r x l u H3 Q
def eJ(xs:List V)(lo hi:Option Int):List V:=(xs.drop (HT.sIx xs.length 0 lo)).take (HT.sIx xs.length xs.length hi-HT.sIx xs.length 0 lo)
theorem jc(xs:List V)(lo hi:Option Int):(eJ xs lo hi).length<=xs.length:=by unfold eJ;rw [dE,AG];omega
def FI(K:W.Frag):V->Option Int->Option Int->Hp->VK->Prop:=fun x lo hi H Q=>∃a xs,x=.ref a/\SqT K H a xs/\
 ¬(HT.sIx xs.length 0 lo=0/\HT.sIx xs.length xs.length hi=xs.length)/\∀p,H p=none->Q (.ref p) (upd H p (.tup (eJ xs lo hi)))
theorem nq:SlR X (FI X.K):=by
 intro pins s σ H x v vl vu lo hi sl Q I rx hs pl pu h;obtain ⟨a,xs,rfl,hx,hw,q⟩:=h
 cases rx
 obtain ⟨its,r,ht,hz⟩:=I.tuple hx;have hlen:its.toArray.size=xs.length:=by rw [fL];exact r.length.symm
 refine zAA ("tuple") _ PyProof.Rows.slot_tuple_getitem.lookup ht.typeIs ?_;refine HT.il ht hs pl pu (by rw [hlen];exact hw) ?_ (by rw [hlen];exact hz);rw [hlen];refine zAA (.ref s.heap.objs.size) _ (I.laid (t':=s.toks) (o:=.tup (eJ xs lo hi)) (fun b ob q=>cy _ q) (zq0 _) ?_) rfl (q _ (I.hok.fresh (zq0 _)));exact ⟨cR (jc xs lo hi) hz,zn _ ((r.drop (HT.sIx xs.length 0 lo)).take (HT.sIx xs.length xs.length hi-HT.sIx xs.length 0 lo)) (IsTup.new _ _)⟩
end
end L2
namespace L2
def ixN(n:Nat)(i:Int):Option Nat:=if 0<=i then (if i<n then some i.toNat else none) else if -(n:Int)<=i then some (i+n).toNat else none
def atI{α:Type}(xs:List α)(i:Int):Option α:=(ixN xs.length i).bind fun j=>xs[j]?
theorem tM{n:Nat}{i:Int}{j:Nat}(h:ixN n i=some j):seqIndex? i n=some j/\j<n/\-(n:Int)<=i/\i<n:=by
 unfold ixN at h
 by_cases h0:0<=i
 ·rw [if_pos h0] at h
  by_cases h1:i<n
  ·rw [if_pos h1] at h;have e:i.toNat=j:=Option.some.inj h;exact zAG (by rw [seqIndex_of h0 h1,e]) Jn Jn h1
  ·rw [if_neg h1] at h;cases h
 ·rw [if_neg h0] at h
  by_cases h1:-(n:Int)<=i
  ·rw [if_pos h1] at h;have e:(i+n).toNat=j:=Option.some.inj h;exact zAG (by rw [seqIndex_neg Jn h1,e]) Jn h1 Jn
  ·rw [if_neg h1] at h;cases h
theorem mB{α:Type}{xs:List α}{i:Int}{v:α}(h:atI xs i=some v):∃j,seqIndex? i xs.length=some j/\xs[j]?=some v/\j<xs.length/\-(xs.length:Int)<=i/\i<xs.length:=by
 unfold atI at h
 cases e:ixN xs.length i with
 |none=>rw [e] at h;cases h
 |some j=>rw [e] at h;obtain ⟨h1,h2,h3,h4⟩:=tM e;exact zBA j h1 h h2 h3 h4
theorem bo{α:Type}{xs:List α}{j:Nat}{v:α}(h:xs[j]?=some v):atI xs (j:Int)=some v:=by
 have hj:j<xs.length:=(zq10.mp h).1;have e:ixN xs.length (j:Int)=some j:=by unfold ixN;rw [if_pos Jn,if_pos Jn];simp
 unfold atI;rw [e];exact h
theorem nQ{α:Type}(xs:List α)(v:α):atI (xs++[v]) (-1)=some v:=by
 have hl:(xs++[v]).length=xs.length+1:=by simp
 have e:ixN (xs++[v]).length (-1)=some xs.length:=by unfold ixN;rw [hl,if_neg Jm,if_pos Jn];congr 1;omega
 unfold atI;rw [e];show (xs++[v])[xs.length]?=some v;simp
def AQ(b:Expr):Prop:=∀o i,subscripted b false o i=operate [o,i] (getItem o i)
def IxR(X:Cx)(r:R2):Prop:=
 ∀(value slice:Expr)(pins:List (Addr×Obj)) (s:Shared) (σ:St) (H:Hp) (x y:V) (v u:Value) (Q:VK),Inv X pins σ H s->RelV x v->RelV y u->r x y H Q->
  subscripted slice false v u=operate [v,u] (getItem v u)->wpAny (model X.prog X.w) X.A (subscriptTail value slice v u) (EP X pins σ Q) X.xe s
def MtR(X:Cx)(id:String)(r:V->List V->Hp->VK->Prop):Prop:=
 ∀(pins:List (Addr×Obj)) (s:Shared) (σ:St) (H:Hp) (x:V) (xs:List V) (v:Value) (us:List Value) (Q:VK),Inv X pins σ H s->RelV x v->Vals xs us->r x xs H Q->
  wpAny (model X.prog X.w) X.A (call (.builtin id) (v::us)) (EP X pins σ Q) X.xe s
section
variable {X:Cx} {a b:Expr} {ta tb:TE} {pos:Pos}
def E3(K:W.Frag):R2:=fun x y H Q=>∃p xs i v,x=.ref p/\y=.int i/\SqL K H p xs/\atI xs i=some v/\Q v H
def E4(K:W.Frag):R2:=fun x y H Q=>∃p xs i v,x=.ref p/\y=.int i/\SqT K H p xs/\atI xs i=some v/\Q v H
def Fz:R2:=fun x y H Q=>∃z i c,x=.str z/\y=.int i/\z.length<=sizeLine/\atI z.cps.toList i=some c/\Q (.str ⟨#[c]⟩) H
theorem aS:IxR X (E3 X.K):=by
 intro value slice pins s σ H x y v u Q I rx ry h hs;obtain ⟨p,xs,i,z,rfl,rfl,hq,he,q⟩:=h
 cases rx
 obtain ⟨t,rfl⟩:=ry;obtain ⟨its,r,pl,hz⟩:=I.list hq;obtain ⟨j,h1,h2,h3,h4,h5⟩:=mB he;obtain ⟨w,ew,rw'⟩:=r.get h2;have hl:=r.length;have hn:=kc;have fin:EP X pins σ Q w s:=zAA z H I rw' q
 by_cases h0:0<=i
 ·have hj:i.toNat=j:=by rw [seqIndex_of h0 h5] at h1;exact Option.some.inj h1
  exact item_listR pl.isList h0 Jn (by rw [hj];simpa using ew) fin hs
 ·have hj:(i+(its.toArray.size:Int)).toNat=j:=by rw [seqIndex_neg Jn h4] at h1;rw [fL,<- hl];exact Option.some.inj h1
  exact subscriptTail_builtinR (x:=w) pl.isList.typeIs slot_list_getitem.lookup
   (wpAny_getItem_list_neg (Q:=fun r s'=>r=w/\EP X pins σ Q r s') pl.isList Jn (by rw [fL]<;>omega) Jn (by rw [hj];simpa using ew) ⟨rfl,fin⟩) hs
theorem aw:IxR X (E4 X.K):=by
 intro value slice pins s σ H x y v u Q I rx ry h hs;obtain ⟨p,xs,i,z,rfl,rfl,hq,he,q⟩:=h
 cases rx
 obtain ⟨t,rfl⟩:=ry;obtain ⟨its,r,pl,hz⟩:=I.tuple hq;obtain ⟨j,h1,h2,h3,h4,h5⟩:=mB he;obtain ⟨w,ew,rw'⟩:=r.get h2;have hl:=r.length;have hn:=kc;have fin:EP X pins σ Q w s:=zAA z H I rw' q
 exact subscriptTail_builtinR (x:=w) pl.typeIs slot_tuple_getitem.lookup
  (getItem_tuple (j:=j) (Q:=fun r s'=>r=w/\EP X pins σ Q r s') pl Jn Jn (by rw [fL,<- hl];exact h1) (by simpa using ew) ⟨rfl,fin⟩) hs
theorem Dv:IxR X Fz:=by
 intro value slice pins s σ H x y v u Q I rx ry h hs;obtain ⟨z,i,c,rfl,rfl,hz,he,q⟩:=h;obtain ⟨t,rfl⟩:=rx;obtain ⟨t',rfl⟩:=ry;obtain ⟨j,h1,h2,h3,h4,h5⟩:=mB he;have hl:z.cps.toList.length=z.length:=by simp [Str.length]
 rw [hl] at h1 h4 h5;have hn:=kc;exact tail_any (typeIs_str s z t) slot_str_getitem.lookup (getItem_str (c:=c) (by have e1:decide (i < -(2 ^ 63:Int))=false:=decide_eq_false Jn;have e2:decide (i ≥ 2 ^ 63)=false:=decide_eq_false Jn;rw [e1,e2,Bool.or_false]) (by rw [h1];simpa using h2) (zAA (.str ⟨#[c]⟩) H (I.tok _) ⟨_,rfl⟩ q)) hs
theorem rA(its:List Value)(n j:Nat)(u:Value):Obj.mapSeq (·.setIfInBounds j u) {cls:=.type "list",data:=.seq its.toArray n}={cls:=.type "list",data:=.seq (its.set j u).toArray n}:=by simp [Obj.mapSeq]
theorem Inv.lst{pins:List (Addr×Obj)}{σ:St}{H:Hp}{s:Shared}{p:Addr}{xs:List V}(I:Inv X pins σ H s)(h:H p=some (.lst xs)):
  ∃(its:List Value)(n:Nat),Vals xs its/\s.heap.get? p=some {cls:=.type "list",data:=.seq its.toArray n}/\xs.length<=sizeLine:=by
 obtain ⟨z,its,n,r,e⟩:=I.hok p _ h;exact zAA its n r e z
theorem Inv.lstUpd{pins:List (Addr×Obj)}{σ:St}{H:Hp}{s:Shared}{p:Addr}{xs ys:List V}{its its':List Value}{n n':Nat}{f:Obj->Obj}(I:Inv X pins σ H s)(h:H p=some (.lst xs))
  (ho:s.heap.get? p=some {cls:=.type "list",data:=.seq its.toArray n}) (hf:f {cls:=.type "list",data:=.seq its.toArray n}={cls:=.type "list",data:=.seq its'.toArray n'}) (r:Vals ys its') (hz:ys.length<=sizeLine) (t:Nat) :
  Inv X pins σ (upd H p (.lst ys)) {s with heap:=s.heap.update p f,toks:=t}:=by
 have e:(s.heap.update p f).get? p=some {cls:=.type "list",data:=.seq its'.toArray n'}:=by rw [Ct f ho (by rw [hf]<;>rfl),hf]
 refine I.write (x:=p) (e:=p) (by rw [h];trivial) (.inl rfl) (fun b u hb q=>(Ai _ _ (Ne.symm hb)).trans q) ⟨_,e⟩ ?_;exact ⟨hz,zAD its' n' r e⟩
def FE:V->V->V->Hp->(Hp->Prop)->Prop:=fun o i v H Q=>∃p xs k j,o=.ref p/\i=.int k/\H p=some (.lst xs)/\ixN xs.length k=some j/\Q (upd H p (.lst (xs.set j v)))
theorem kD:Dd X FE:=by
 intro pins s σ H o i v ov iv u Q I ro ri rv h;obtain ⟨p,xs,k,j,rfl,rfl,hp,hj,q⟩:=h
 cases ro
 obtain ⟨t,rfl⟩:=ri;obtain ⟨its,n,r,ho,hz⟩:=I.lst hp;obtain ⟨h1,h2,h3,h4⟩:=tM hj;have hl:=r.length;have hn:=kc;have I':Inv X pins σ (upd H p (.lst (xs.set j v))) {s with heap:=s.heap.update p (Obj.mapSeq (·.setIfInBounds j u))}:=
  I.lstUpd hp ho (rA its n j u) (r.set rv j) (by rw [qL];exact hz) s.toks
 by_cases h0:0<=k
 ·have hk:k.toNat=j:=by rw [seqIndex_of h0 h4] at h1;exact Option.some.inj h1
  exact W.ki_setAt ho h0 Jn (by rw [fL,<- hl];exact h4) (by rw [hk];exact zn _ I' q)
 ·have hk:(k+(its.toArray.size:Int)).toNat=j:=by rw [seqIndex_neg Jn h3] at h1;rw [fL,<- hl];exact Option.some.inj h1
  exact W.ki_setBack ho Jn (by rw [fL,<- hl];exact h3) Jn (by rw [hk];exact zn _ I' q)
theorem nu(lo hi:Option Int)(n:Nat):(sliceBounds lo hi none n).1=((HT.sIx n 0 lo:Nat):Int)/\(sliceBounds lo hi none n).2.1=((HT.sIx n n hi:Nat):Int)/\(sliceBounds lo hi none n).2.2=1:=by
 refine zAB ?_ ?_ rfl
 ·cases lo with
  |none=>simp [sliceBounds,HT.sIx]
  |some i=>
   simp only [sliceBounds,HT.sIx,Option.getD_none,show (1:Int)>0 by decide,if_true]
   by_cases h:i<0
   ·simp only [h,if_true]<;>omega
   ·simp only [h,if_false]<;>omega
 ·cases hi with
  |none=>simp [sliceBounds,HT.sIx]
  |some i=>
   simp only [sliceBounds,HT.sIx,Option.getD_none,show (1:Int)>0 by decide,if_true]
   by_cases h:i<0
   ·simp only [h,if_true]<;>omega
   ·simp only [h,if_false]<;>omega
theorem kZ(its:List Value)(lo hi:Option Int):slicePick its.toArray lo hi none=((its.drop (HT.sIx its.length 0 lo)).take (HT.sIx its.length its.length hi-HT.sIx its.length 0 lo)).toArray:=by obtain ⟨h1,h2,h3⟩:=nu lo hi its.toArray.size;unfold slicePick;rw [h1,h2,h3];simp only [sliceRange_one,pick_run,List.size_toArray]<;>rfl
def FH(K:W.Frag):V->Option Int->Option Int->Hp->VK->Prop:=fun x lo hi H Q=>∃a xs,x=.ref a/\SqL K H a xs/\∀p,H p=none->Q (.ref p) (upd H p (.lst (eJ xs lo hi)))
theorem dA:SlR X (FH X.K):=by
 intro pins s σ H x v vl vu lo hi sl Q I rx hs pl pu h;obtain ⟨a,xs,rfl,hx,q⟩:=h
 cases rx
 obtain ⟨its,r,ht,hz⟩:=I.list hx;have hlen:=r.length;refine zAA ("list") _ slot_list_getitem.lookup ht.isList.typeIs ?_;refine wpAny_getItem_list_slice ht.isList hs pl pu .none Jo ?_ (by rw [List.size_toArray]<;>omega);rw [kZ,<- hlen];refine zAA (.ref s.heap.objs.size) _ (I.laid (t':=s.toks) (o:=.lst (eJ xs lo hi)) (fun b ob q=>cy _ q) (zq0 _) ?_) rfl (q _ (I.hok.fresh (zq0 _)));exact ⟨cR (jc xs lo hi) hz,zAD _ 0 ((r.drop (HT.sIx xs.length 0 lo)).take (HT.sIx xs.length xs.length hi-HT.sIx xs.length 0 lo)) (dy _ rfl)⟩
def bH:V->Bool
 | .non=>true
 | .bl _=>true
 | .int _=>true
 | .str _=>true
 |_=>false
def eqV:V->V->Bool
 | .non,.non=>true
 | .bl a,.bl b=>a==b
 | .bl a,.int b=>(if a then 1 else 0)==b
 | .int a,.bl b=>a==(if b then 1 else 0)
 | .int a,.int b=>a==b
 | .str a,.str b=>a==b
 |_,_=>false
theorem rc{A:Around}{s:Shared}{y x:V}{u v:Value}(ry:RelV y u)(rx:RelV x v)(fy:bH y=true)(fx:bH x=true):SeqAt.EqAt A s u v (eqV y x):=by
 cases y with
 |non=>
  cases ry
  cases x with
  |non=>cases rx;exact SeqAt.EqAt.same _
  |bl b=>cases rx;exact SeqAt.EqAt.none_bool b
  |int b=>obtain ⟨t,rfl⟩:=rx;exact SeqAt.EqAt.none_int b t
  |str b=>obtain ⟨t,rfl⟩:=rx;exact SeqAt.EqAt.none_str b t
  |_=>exact absurd (show false=true from fx) zq6
 |bl a=>
  cases ry
  cases x with
  |non=>cases rx;exact SeqAt.EqAt.bool_none a
  |bl b=>cases rx;exact SeqAt.EqAt.bool_bool a b
  |int b=>obtain ⟨t,rfl⟩:=rx;exact SeqAt.EqAt.bool_int a b t
  |str b=>obtain ⟨t,rfl⟩:=rx;exact SeqAt.EqAt.bool_str a b t
  |_=>exact absurd (show false=true from fx) zq6
 |int a=>
  obtain ⟨t',rfl⟩:=ry
  cases x with
  |non=>cases rx;exact SeqAt.EqAt.int_none a t'
  |bl b=>cases rx;exact SeqAt.EqAt.int_bool a t' b
  |int b=>obtain ⟨t,rfl⟩:=rx;exact SeqAt.EqAt.int_int a t' b t
  |str b=>obtain ⟨t,rfl⟩:=rx;exact SeqAt.EqAt.int_str a t' b t
  |_=>exact absurd (show false=true from fx) zq6
 |str a=>
  obtain ⟨t',rfl⟩:=ry
  cases x with
  |non=>cases rx;exact SeqAt.EqAt.str_none a t'
  |bl b=>cases rx;exact SeqAt.EqAt.str_bool a t' b
  |int b=>obtain ⟨t,rfl⟩:=rx;exact SeqAt.EqAt.str_int a t' b t
  |str b=>obtain ⟨t,rfl⟩:=rx;exact SeqAt.EqAt.str_str a t' b t
  |_=>exact absurd (show false=true from fx) zq6
 |_=>exact absurd (show false=true from fy) zq6
def eqU(x:V)(u:Value):Bool:=match u with
 | .none=>eqV .non x
 | .bool b=>eqV (.bl b) x
 | .int i _=>eqV (.int i) x
 | .str z _=>eqV (.str z) x
 |_=>false
theorem rf{x y:V}{u:Value}(r:RelV y u)(f:bH y=true):eqU x u=eqV y x:=by
 cases y with
 |non=>cases r;rfl
 |bl b=>cases r;rfl
 |int i=>obtain ⟨t,rfl⟩:=r;rfl
 |str z=>obtain ⟨t,rfl⟩:=r;rfl
 |_=>exact absurd (show false=true from f) zq6
theorem i6{x:V}:∀{xs:List V} {us:List Value},Vals xs us->xs.all bH=true->us.any (eqU x)=xs.any fun y=>eqV y x
 |_,_,.nil,_=>rfl
 |y::xs,u::us,.cons r t,f=>by rw [sC,dF] at f;rw [qM,qM,rf r f.1,i6 t f.2]
theorem eY{A:Around}{s:Shared}{x:V}{v:Value}(rx:RelV x v)(fx:bH x=true):∀{xs:List V} {us:List Value},Vals xs us->xs.all bH=true->∀u∈us,SeqAt.EqAt A s u v (eqU x u)
 |_,_,.nil,_=>fun u hu=>by cases hu
 |y::xs,u::us,.cons r t,f=>fun u' hu=>by
  rw [sC,dF] at f;rcases zq5.mp hu with rfl | hu
  ·rw [rf r f.1];exact rc r rx f.1 fx
  ·exact eY rx fx t f.2 u' hu
def inV(x:V)(xs:List V):Bool:=xs.any fun y=>eqV y x
def rIn(K:W.Frag)(neg:Bool):R2:=fun x y H Q=>∃p xs,y=.ref p/\(SqL K H p xs\/SqT K H p xs)/\bH x=true/\xs.all bH=true/\Q (.bl (if neg then !inV x xs else inV x xs)) H
theorem du:OpR X (compareOp .In) (rIn X.K false):=by
 intro pins s σ H x y v u Q I rx ry h;obtain ⟨p,xs,rfl,hq,fx,fs,q⟩:=h
 cases ry
 rcases hq with hq | hq
 ·obtain ⟨its,r,pl,hz⟩:=I.list hq;refine SeqAt.in_listAt (eqU x) pl.isList (fun w hw=>eY rx fx r fs w (by simpa using hw)) (zAA (.bl _) H I rfl ?_);rw [show its.toArray.any (eqU x)=its.any (eqU x) by simp,i6 r fs];exact q
 ·obtain ⟨its,r,pl,hz⟩:=I.tuple hq;refine SeqAt.in_tupleAt (eqU x) pl (fun w hw=>eY rx fx r fs w (by simpa using hw)) (zAA (.bl _) H I rfl ?_);rw [show its.toArray.any (eqU x)=its.any (eqU x) by simp,i6 r fs];exact q
theorem dN:OpR X (compareOp .NotIn) (rIn X.K true):=by
 intro pins s σ H x y v u Q I rx ry h;obtain ⟨p,xs,rfl,hq,fx,fs,q⟩:=h
 cases ry
 rcases hq with hq | hq
 ·obtain ⟨its,r,pl,hz⟩:=I.list hq;refine SeqAt.notIn_listAt (eqU x) pl.isList (fun w hw=>eY rx fx r fs w (by simpa using hw)) (zAA (.bl _) H I rfl ?_);rw [show its.toArray.any (eqU x)=its.any (eqU x) by simp,i6 r fs];exact q
 ·obtain ⟨its,r,pl,hz⟩:=I.tuple hq;refine SeqAt.notIn_tupleAt (eqU x) pl (fun w hw=>eY rx fx r fs w (by simpa using hw)) (zAA (.bl _) H I rfl ?_);rw [show its.toArray.any (eqU x)=its.any (eqU x) by simp,i6 r fs];exact q
theorem aD:eA X (.builtin "len") (fun xs H Q=>∃p ys,xs=[.ref p]/\(SqL X.K H p ys\/SqT X.K H p ys)/\Q (.int ys.length) H):=by
 intro pins s σ H xs us Q I r h;obtain ⟨p,ys,rfl,hq,q⟩:=h;obtain ⟨u,rfl,rx⟩:=gU r
 cases rx
 have hn:=kc;rcases hq with hq | hq
 ·obtain ⟨its,r',pl,hz⟩:=I.list hq;have hlen:=r'.length;exact Calls.call_len_list pl.isList (by simp only [List.size_toArray]<;>omega) (zAA (.int ys.length) H (I.tok _) ⟨s.toks+1,by rw [fL,hlen]⟩ q)
 ·obtain ⟨its,r',pl,hz⟩:=I.tuple hq;have hlen:=r'.length;exact len_tuple pl (by simp only [List.size_toArray]<;>omega) (zAA (.int ys.length) H (I.tok _) ⟨s.toks+1,by rw [fL,hlen]⟩ q)
theorem dI:eA X (.type "list") (fun xs H Q=>∃p ys,xs=[.ref p]/\(SqL X.K H p ys\/SqT X.K H p ys)/\∀l,H l=none->Q (.ref l) (upd H l (.lst ys))):=by
 intro pins s σ H xs us Q I r h;obtain ⟨p,ys,rfl,hq,q⟩:=h;obtain ⟨u,rfl,rx⟩:=gU r
 cases rx
 have fin:∀(its:List Value),Vals ys its->ys.length<=sizeLine->∀(h':Heap)(c':Nat),(∀b o',s.heap.get? b=some o'->h'.get? b=some o')->
   h'.get? s.heap.objs.size=some {cls:=.type "list",dict:=none,data:=.seq its.toArray c',slots:=#[]}->EP X pins σ Q (.ref s.heap.objs.size) {s with heap:=h'}:=fun its r' hz h' c' kp e=>
  (zAA (.ref s.heap.objs.size) _ (I.laid (t':=s.toks) kp (zq0 _) (show ObjOk X.prog X.w _ h' _ (.lst ys) from ⟨hz,zAD its c' r' e⟩)) rfl (q _ (I.hok.fresh (zq0 _))))
 rcases hq with hq | hq
 ·obtain ⟨its,r',pl,hz⟩:=I.list hq;have hlen:=r'.length;obtain ⟨o,ho,hc,n,hd⟩:=pl.isList;exact call_list_seq p (.inl rfl) ho hc hd (fun h' c' kp e=>fin its r' hz h' c' kp e) (by simp only [List.size_toArray]<;>omega)
 ·obtain ⟨its,r',pl,hz⟩:=I.tuple hq;have hlen:=r'.length;obtain ⟨o,ho,hc,n,hd⟩:=pl;exact call_list_seq p (.inr rfl) ho hc hd (fun h' c' kp e=>fin its r' hz h' c' kp e) (by simp only [List.size_toArray]<;>omega)
theorem kT:eA X (.type "tuple") (fun xs H Q=>∃p ys,xs=[.ref p]/\((SqL X.K H p ys/\∀l,H l=none->Q (.ref l) (upd H l (.tup ys)))\/(SqT X.K H p ys/\Q (.ref p) H))):=by
 intro pins s σ H xs us Q I r h;obtain ⟨p,ys,rfl,h⟩:=h;obtain ⟨u,rfl,rx⟩:=gU r
 cases rx
 rcases h with ⟨hq,q⟩ | ⟨hq,q⟩
 ·obtain ⟨its,r',pl,hz⟩:=I.list hq;have hlen:=r'.length;refine call_tuple_list pl.isList (fun h' kp=>?_) (by simp only [List.size_toArray]<;>omega);have I1:Inv X pins σ H {s with heap:=h'}:=I.kept (t':=s.toks) kp;have I2:Inv X pins σ (upd H h'.objs.size (.tup ys)) {s with heap:=h'.push {cls:=.type "tuple",data:=.seq its.toArray}}:=
   I1.laid (t':=s.toks) (fun b o e=>cy _ e) (zq0 _) (show ObjOk X.prog X.w _ _ _ (.tup ys) from ⟨hz,zn its r' (IsTup.new _ _)⟩)
  exact zAA (.ref h'.objs.size) _ I2 rfl (q _ (I1.hok.fresh (zq0 _)))
 ·obtain ⟨its,r',pl,hz⟩:=I.tuple hq;exact call_tuple_same pl (zAA (.ref p) H I rfl q)
def tyV(K:W.Frag)(T:String)(x:V)(H:Hp):Prop:=match x with
 | .str _=>T="str"
 | .int _=>T="int"
 | .ref p=>(T="list"/\∃xs,SqL K H p xs)\/(T="tuple"/\∃o,K.lookup p=some o/\o.cls=.type "tuple"/\o.dict=none)\/
   (T="dict"/\((∃kvs,H p=some (.dK kvs))\/∃kvs,H p=some (.dT kvs)))\/(T="set"/\∃S n,H p=some (.set S n))
 |_=>False
theorem sh{pins:List (Addr×Obj)}{σ:St}{H:Hp}{s:Shared}{T:String}{x:V}{v:Value}(I:Inv X pins σ H s)(r:RelV x v)(ty:tyV X.K T x H):
  s.TypeIs v T/\∀a,v=.ref a->∃ob,s.heap.get? a=some ob/\ob.dict=none:=by
 cases x with
 |str z=>
  obtain ⟨t,rfl⟩:=r
  cases (show T="str" from ty)
  exact ⟨typeIs_str s z t,fun _ e=>nomatch e⟩
 |int i=>
  obtain ⟨t,rfl⟩:=r
  cases (show T="int" from ty)
  exact ⟨typeIs_int s i t,fun _ e=>nomatch e⟩
 |ref p=>
  cases r
  rcases ty with ⟨rfl,xs,hq⟩ | ⟨rfl,o,hk,hc,hd⟩ | ⟨rfl,hk⟩ | ⟨rfl,S,n,hk⟩
  ·obtain ⟨its,_,pl,_⟩:=I.list hq;refine ⟨pl.isList.typeIs,fun a e=>?_⟩
   cases e
   obtain ⟨o,n,e,c,hd,_⟩:=pl;exact zn o e hd
  ·refine ⟨zn o (I.kIn p o hk) hc,fun a e=>?_⟩
   cases e
   exact zn o (I.kIn _ o hk) hd
  ·have z:∃o,s.heap.get? p=some o/\o.ExactDict:=by
    rcases hk with ⟨kvs,hk⟩ | ⟨kvs,hk⟩
    ·obtain ⟨_,_,_,_,o,_,_,e,ex,_⟩:=I.hok p _ hk;exact zn o e ex
    ·obtain ⟨_,_,_,_,o,_,_,e,ex,_⟩:=I.hok p _ hk;exact zn o e ex
   obtain ⟨o,e,ex⟩:=z;refine ⟨zn o e ex.1,fun a e2=>?_⟩
   cases e2
   exact zn o e ex.2.1
  ·obtain ⟨o,_,_,_,e,ex,_⟩:=I.hok p _ hk;refine ⟨zn o e ex.1,fun a e2=>?_⟩
   cases e2
   exact zn o e ex.2.1
 |_=>exact False.elim ty
def Ig(K:W.Frag)(T:String)(r:V->List V->Hp->VK->Prop)(to:TE):TE:=fun σ H Q=>to σ H fun x H1=>tyV K T x H1/\r x [] H1 Q
def tBM(K:W.Frag)(T:String)(r:V->List V->Hp->VK->Prop)(to:TE)(t:TA):TE:=fun σ H Q=>to σ H fun x H1=>tyV K T x H1/\t σ H1 fun xs H2=>r x xs H2 Q
variable {o e:Expr} {es:List Expr} {to:TE} {t:TA} {name:Str} {apos cpos:Pos} {T id:String} {r:V->List V->Hp->VK->Prop}
theorem Fw(pa:PlainAttrs T)(slot:Slot T name id)(hty:typeOf (.builtin id)=pure (.type "method_descriptor")) (hm:MtR X id r) (ho:PE X o to) (ha:PA X (e::es) t)
  (hbase:attributeBase o name X.env (eval o X.env)=eval o X.env:=by rfl)
  (hfew:((backTo cpos (starEach (e::es) X.env)).all (fun x=>!x.1)&&(backToKw cpos (keywordEach [] X.env)).all (fun x=>x.1.isSome)
   && decide ((e::es).length+([]:List Keyword).length+(if ([]:List Keyword).isEmpty then 0 else 1)<30))=true:=by rfl)
  (hline:(apos.endLine==cpos.line)=true:=by rfl) (hs:starEach (e::es) X.env=(false,eval e X.env)::starEach es X.env:=by rfl) (hplain:(backTo cpos (starEach es X.env)).any (·.1)=false:=by rfl) :
  PE X (.Call (.Attribute o name apos) (e::es) [] cpos) (tBM X.K T r to t):=by
 intro pins s σ H Q I h;refine wpAny_Call_method_late hbase hfew hline rfl (thn (ho pins s σ H _ I h) fun v s1 hhx=>?_);obtain ⟨x,H1,I1,r1,ty,q1⟩:=hhx;obtain ⟨h1,h2⟩:=sh I1 r1 ty;refine zBF T id pa slot hty h1 h2 ?_;have hA:=ha cpos pins s1 σ H1 _ I1 q1;rw [hs] at hA ⊢;refine Calls.callWith_builtin (by show (false || (backTo cpos (starEach es X.env)).any (·.1))=false;rw [hplain]<;>rfl) (Calls.evalArgs_plain ?_);exact thn hA fun us s2 ⟨vs,H2,I2,r2,q2⟩=>hm pins s2 σ H2 x vs v us Q I2 r1 r2 q2
/- xs.append(e),list.index on a module's tuple .. are MtR facts of 06m -/
end
end L2
namespace L2
def MtM(X:Cx)(id:String)(r:V->List V->Hp->VK->Prop):Prop:=
 ∀(pins:List (Addr×Obj)) (s:Shared) (σ:St) (H:Hp) (x:V) (xs:List V) (v:Value) (us:List Value) (Q:VK),Inv X pins σ H s->RelV x v->Vals xs us->r x xs H Q->
  wpAny (model X.prog X.w) X.A (call (.builtin id) (v::us)) (EP X pins σ Q) X.xe s
theorem Vals.one:∀{x:V} {us:List Value},Vals [x] us->∃u,us=[u]/\RelV x u
 |_,_,.cons r .nil=>zn _ rfl r
theorem Vals.zero:∀{us:List Value},Vals [] us->us=[]
 |_,.nil=>rfl
theorem Vals.dropLast{xs:List V}{us:List Value}(h:Vals xs us):Vals xs.dropLast us.dropLast:=by
 induction h with
 |nil=>exact .nil
 |cons r t ih=>
  cases t with
  |nil=>exact .nil
  |cons q t'=>exact .cons r ih
theorem rg{α:Type}(l:List α):l.eraseIdx (l.length-1)=l.dropLast:=by
 induction l with
 |nil=>rfl
 |cons a r ih=>
  cases r with
  |nil=>rfl
  |cons b r=>
   have e:(a::b::r).length-1=((b::r).length-1)+1:=by have h1:(a::b::r).length=r.length+2:=rfl;have h2:(b::r).length=r.length+1:=rfl;omega
   rw [e,List.eraseIdx_cons_succ,ih]
   all_goals rfl
section
variable {X:Cx} {pins:List (Addr×Obj)} {σ:St} {H:Hp} {s:Shared} {l b:Addr} {xs ys zs:List V}
theorem Inv.lset{its its':List Value}{n:Nat}{f:Array Value->Array Value}{t':Nat}(I:Inv X pins σ H s)(hH:H l=some (.lst xs))
  (e:s.heap.get? l=some {cls:=.type "list",data:=.seq its.toArray n}) (hf:f its.toArray=its'.toArray) (hv:Vals ys its') (hz:ys.length<=sizeLine) :
  Inv X pins σ (upd H l (.lst ys)) {s with heap:=s.heap.update l (Obj.mapSeq f),toks:=t'}:=by
 have q:=PySem.IsL.update e f;rw [hf] at q;refine I.write (x:=l) (e:=l) (by rw [hH];exact trivial) (.inl rfl) (fun b' u hb hu=>(Ai s.heap (Obj.mapSeq f) (Ne.symm hb)).trans hu) ⟨_,q⟩ ?_;exact ⟨hz,zAD its' _ hv q⟩
theorem Inv.lnew{its:List Value}{t':Nat}(I:Inv X pins σ H s)(hv:Vals ys its)(hz:ys.length<=sizeLine):
  Inv X pins σ (upd H s.heap.objs.size (.lst ys)) {s with heap:=s.heap.push {cls:=.type "list",data:=.seq its.toArray},toks:=t'}:=
 I.laid (fun _ _ q=>cy _ q) (zq0 _) ⟨hz,zAD its 0 hv (dy _ rfl)⟩
theorem Inv.fresh(I:Inv X pins σ H s):H s.heap.objs.size=none:=I.hok.fresh (zq0 _)
theorem Inv.lstM(I:Inv X pins σ H s)(hH:H l=some (.lst xs)):xs.length<=sizeLine/\∃(its:List Value)(n:Nat),Vals xs its/\xs.length=its.length/\s.heap.get? l=some {cls:=.type "list",data:=.seq its.toArray n}:=by obtain ⟨z,its,n,r,e⟩:=I.hok l _ hH;exact ⟨z,zAA its n r r.length e⟩
theorem xZ{n:Nat}(h:n<=sizeLine):Builtin.List.listTooLong n=false:=by unfold Builtin.List.listTooLong;exact decide_eq_false Jn
end
section
variable {X:Cx}
def ua:V->List V->Hp->VK->Prop:=fun x vs H Q=>∃l xs y,x=.ref l/\vs=[y]/\H l=some (.lst xs)/\xs.length<sizeLine/\Q .non (upd H l (.lst (xs++[y])))
theorem ba:MtM X "list.append" ua:=by
 intro pins s σ H x vs v us Q I rx rv h;obtain ⟨l,xs,y,rfl,rfl,hH,hz,q⟩:=h
 cases rx
 obtain ⟨u,rfl,ru⟩:=rv.one;obtain ⟨z,its,n,r,hl,e⟩:=I.lstM hH;refine call_meets F.slot_list_append (zn _ e rfl) F.entry_list_append (F.args_list_append_2 _ _) (PySem.list_append l its.toArray n u (by rw [fL];omega)) ⟨e,?_⟩;refine zAA .non _ (I.lset (its':=its++[u]) hH e Jo (r.append (.cons ru .nil)) ?_) rfl q;rw [zq3,cG];omega
def BI:V->List V->Hp->VK->Prop:=fun x vs H Q=>∃l b xs zs,x=.ref l/\vs=[.ref b]/\H l=some (.lst xs)/\H b=some (.lst zs)/\xs.length+zs.length<=sizeLine/\Q .non (upd H l (.lst (xs++zs)))
theorem vR:MtM X "list.extend" BI:=by
 intro pins s σ H x vs v us Q I rx rv h;obtain ⟨l,b,xs,zs,rfl,rfl,hH,hB,hz,q⟩:=h
 cases rx
 obtain ⟨u,rfl,ru⟩:=rv.one
 cases ru
 obtain ⟨z,its,n,r,hl,e⟩:=I.lstM hH;obtain ⟨z2,its2,n2,r2,hl2,e2⟩:=I.lstM hB;have hsz:its.toArray.size+its2.toArray.size<=sizeLine:=by rw [fL,fL];omega
 have hlong:¬(!its.toArray.isEmpty&&Builtin.List.listTooLong (its.toArray.size+its2.toArray.size))=true:=by rw [xZ hsz,Bool.and_false];exact zq6
 refine call_meets F.slot_list_extend (zn _ e rfl) F.entry_list_extend (F.args_list_extend_2 _ _)
  (AutoSeq1.list_extend_list_list_0 l its.toArray n b its2.toArray n2 hlong (by rw [fL];omega) Jn) (zAB e e2 ?_)
 refine zAA .non _ (I.lset (its':=its++its2) hH e Jo (r.append r2) ?_) rfl q;rw [zq3];omega
def IC:V->List V->Hp->VK->Prop:=fun x vs H Q=>∃l xs y,x=.ref l/\vs=[]/\H l=some (.lst xs)/\xs[xs.length-1]?=some y/\Q y (upd H l (.lst xs.dropLast))
theorem DC:MtM X "list.pop" IC:=by
 intro pins s σ H x vs v us Q I rx rv h;obtain ⟨l,xs,y,rfl,rfl,hH,hy,q⟩:=h
 cases rx
 have hus:=rv.zero;subst hus;obtain ⟨z,its,n,r,hl,e⟩:=I.lstM hH;obtain ⟨u,hu,ru⟩:=r.get hy;have hy':its.toArray[its.toArray.size-1]?=some u:=by show its.toArray[its.length-1]?=some u;rw [<- Aj,<- hl];exact hu
 refine call_meets F.slot_list_pop (zn _ e rfl) F.entry_list_pop (F.args_list_pop_1 _) (MeetsSeq.list_pop_last l its.toArray n u hy' (by rw [fL];omega)) ⟨e,?_⟩;refine zAA y _ (I.lset (its':=its.dropLast) hH e ?_ r.dropLast ?_) ru q
 ·show its.toArray.eraseIdxIfInBounds (its.toArray.size-1)=its.dropLast.toArray;rw [fL,List.eraseIdxIfInBounds_toArray,rg]
 ·rw [kN];omega
def Fy:R2:=fun x y H Q=>∃l b xs zs,x=.ref l/\y=.ref b/\H l=some (.lst xs)/\H b=some (.lst zs)/\xs.length+zs.length<=sizeLine/\∀p,H p=none->Q (.ref p) (upd H p (.lst (xs++zs)))
theorem hZ:OpR X (binaryOp .Add) Fy:=by
 intro pins s σ H x y v u Q I rx ry h;obtain ⟨l,b,xs,zs,rfl,rfl,hH,hB,hz,q⟩:=h
 cases rx
 cases ry
 obtain ⟨z,its,n,r,hl,e⟩:=I.lstM hH;obtain ⟨z2,its2,n2,r2,hl2,e2⟩:=I.lstM hB;refine PySem.P.add_list e e2 ?_ (by rw [fL,fL];omega);have ea:its.toArray++its2.toArray=(its++its2).toArray:=by simp
 rw [ea];exact zAA (.ref _) _ (I.lnew (t':=s.toks) (r.append r2) (by rw [zq3];omega)) rfl (q _ I.fresh)
end
section
variable {prog:Program} {w:World} {A:Around} {E:Value->Shared->Prop} {s:Shared}
end
section
variable {X:Cx}
end
end L2
namespace L2
section
variable {κ:Type} [DecidableEq κ]
def bI(kvs:List (κ×V))(k:κ):Option V:=(kvs.find? fun kv=>decide (kv.1=k)).map (·.2)
def cv(kvs:List (κ×V))(k:κ)(v:V):List (κ×V):=
 if (kvs.any fun kv=>decide (kv.1=k))=true then kvs.map (fun kv=>if kv.1=k then (kv.1,v) else kv) else kvs++[(k,v)]
theorem c9{p:κ×V}{r:List (κ×V)}{k:κ}(e:p.1=k):bI (p::r) k=some p.2:=by simp [bI,List.find?_cons,e]
theorem bW{p:κ×V}{r:List (κ×V)}{k:κ}(e:¬p.1=k):bI (p::r) k=bI r k:=by simp [bI,List.find?_cons,e]
theorem cI(k:κ):∀kvs:List (κ×V),(kvs.any fun kv=>decide (kv.1=k))=(bI kvs k).isSome
 | []=>rfl
 |p::r=>by
  rw [qM]
  by_cases e:p.1=k
  ·simp only [c9 e,decide_eq_true e,Bool.true_or,Option.isSome_some]
  ·rw [bW e,decide_eq_false e,Bool.false_or];exact cI k r
theorem qG(k j:κ)(y:V):∀kvs:List (κ×V),bI (kvs.map fun kv=>if kv.1=k then (kv.1,y) else kv) j=(bI kvs j).map fun x=>if j=k then y else x
 | []=>rfl
 |p::r=>by
  have ih:=qG k j y r;rw [dh]
  by_cases h:p.1=k
  ·rw [if_pos h]
   by_cases e:p.1=j
   ·rw [c9 (p:=(p.1,y)) e,c9 e,Cu,if_pos (e.symm.trans h)]
   ·rw [bW (p:=(p.1,y)) e,bW e,ih]
  ·rw [if_neg h]
   by_cases e:p.1=j
   ·rw [c9 (p:=p) e,c9 e,Cu,if_neg (fun z=>h (e.trans z))]
   ·rw [bW (p:=p) e,bW e,ih]
theorem ml(k j:κ)(y:V):∀kvs:List (κ×V),bI kvs k=none->bI (kvs++[(k,y)]) j=if j=k then some y else bI kvs j
 | [],_=>by
  by_cases e:k=j
  ·rw [if_pos e.symm];exact c9 (p:=(k,y)) e
  ·rw [if_neg (fun z=>e z.symm)];exact bW (p:=(k,y)) e
 |p::r,hn=>by
  rw [qN];have hk:¬p.1=k:=fun z=>by rw [c9 z] at hn;cases hn
  rw [bW hk] at hn;have ih:=ml k j y r hn
  by_cases e:p.1=j
  ·rw [c9 e,c9 e,if_neg (fun z=>hk (e.trans z))]
  ·rw [bW e,bW e,ih]
theorem zZ(kvs:List (κ×V))(k j:κ)(y:V):bI (cv kvs k y) j=if j=k then some y else bI kvs j:=by
 unfold cv
 by_cases a:(kvs.any fun kv=>decide (kv.1=k))=true
 ·rw [if_pos a,qG];rw [cI] at a
  by_cases e:j=k
  ·obtain ⟨x,hx⟩:=zq137.mp a;rw [if_pos e,e,hx,Cu,if_pos rfl]
  ·rw [if_neg e]
   cases bI kvs j with
   |none=>rfl
   |some x=>rw [Cu,if_neg e]
 ·rw [if_neg a];refine ml k j y kvs ?_;rw [cI] at a
  cases q:bI kvs k with
  |none=>rfl
  |some x=>rw [q] at a;exact (a rfl).elim
theorem eE(kvs:List (κ×V))(k:κ)(v:V):(cv kvs k v).length<=kvs.length+1:=by
 unfold cv
 split
 ·rw [zq1];omega
 ·rw [zq3,dk,List.length_nil];omega
theorem pI{kvs:List (κ×V)}{k:κ}(v:V)(h:bI kvs k=none):cv kvs k v=kvs++[(k,v)]:=by unfold cv;rw [cI,h];exact if_neg Jm
theorem RelO.isSome_eq{o:Option V}{u:Option Value}(r:RelO o u):o.isSome=u.isSome:=by
 cases o with
 |none=>cases u with
  |none=>rfl
  |some _=>exact (show False from r).elim
 |some _=>cases u with
  |none=>exact (show False from r).elim
  |some _=>rfl
theorem RelO.getD{o:Option V}{u:Option Value}{d:V}{d':Value}(r:RelO o u)(rd:RelV d d'):RelV (o.getD d) (u.getD d'):=by
 cases o with
 |none=>cases u with
  |none=>exact rd
  |some _=>exact (show False from r).elim
 |some _=>cases u with
  |none=>exact (show False from r).elim
  |some _=>exact r
theorem KV.val{kvs:List (κ×V)}{vs:List (κ×Value)}(r:KV kvs vs)(k:κ):RelO (bI kvs k) (valueAt vs k):=by
 unfold KV at r
 induction r with
 |nil=>exact True.intro
 | @cons p q ps qs h t ih=>
  obtain ⟨h1,h2⟩:=h
  by_cases e:p.1=k
  ·have e':q.1=k:=h1.symm.trans e;have b:valueAt (q::qs) k=some q.2:=by simp [valueAt,List.find?_cons,e']
   rw [c9 e,b];exact h2
  ·have e':¬q.1=k:=fun z=>e (h1.trans z);have b:valueAt (q::qs) k=valueAt qs k:=by simp [valueAt,List.find?_cons,e']
   rw [bW e,b];exact ih
theorem KV.any{kvs:List (κ×V)}{vs:List (κ×Value)}(r:KV kvs vs)(k:κ):(kvs.any fun kv=>decide (kv.1=k))=vs.any fun kv=>decide (kv.1=k):=by
 unfold KV at r
 induction r with
 |nil=>rfl
 |cons h t ih=>rw [qM,qM,ih,h.1]
theorem KV.repl{kvs:List (κ×V)}{vs:List (κ×Value)}(r:KV kvs vs)(k:κ){y:V}{u:Value}(ry:RelV y u):
  KV (kvs.map fun kv=>if kv.1=k then (kv.1,y) else kv) (vs.map fun kv=>if kv.1=k then (kv.1,u) else kv):=by
 unfold KV at r ⊢
 induction r with
 |nil=>exact .nil
 | @cons p q ps qs h t ih=>
  rw [dh,dh];refine .cons ?_ ih;obtain ⟨h1,h2⟩:=h
  by_cases e:p.1=k
  ·rw [if_pos e,if_pos (h1.symm.trans e)];exact ⟨h1,ry⟩
  ·rw [if_neg e,if_neg (fun z=>e (h1.trans z))];exact ⟨h1,h2⟩
theorem KV.put{kvs:List (κ×V)}{vs:List (κ×Value)}(r:KV kvs vs)(k:κ){y:V}{u:Value}(ry:RelV y u):KV (cv kvs k y) (stored vs k u):=by
 unfold cv stored;rw [r.any k]
 by_cases e:(vs.any fun kv=>decide (kv.1=k))=true
 ·rw [if_pos e,if_pos e];exact r.repl k ry
 ·rw [if_neg e,if_neg e];exact Paired.snoc r ⟨rfl,ry⟩
theorem KV.keys{kvs:List (κ×V)}{vs:List (κ×Value)}(r:KV kvs vs):kvs.map (·.1)=vs.map (·.1):=by
 unfold KV at r
 induction r with
 |nil=>rfl
 |cons h t ih=>rw [dh,dh,ih,h.1]
theorem KV.length{kvs:List (κ×V)}{vs:List (κ×Value)}(r:KV kvs vs):kvs.length=vs.length:=Paired.length r
end
theorem lS{P:Program}{w:World}{k:Key}{u:Value}(r:RelV (kV k) u):(bi P w).is k u=true:=by
 cases k with
 |inl i=>obtain ⟨t,e⟩:=(show ∃t,u=Value.int i t from r);subst e;exact oY P w i t
 |inr x=>obtain ⟨t,e⟩:=(show ∃t,u=Value.str x t from r);subst e;exact oZ P w x t
theorem lR{P:Program}{w:World}:∀{ks:List Key} {us:List Value},Vals (ks.map kV) us->ItemsAre (bi P w) ks us
 | [],_,r=>by rw [List.map_nil] at r;cases r;exact .nil
 |k::ks,_,r=>by
  rw [dh] at r
  cases r with
  |cons h t=>exact .cons (lS h) (lR t)
abbrev KT (H:Hp):List (List Key×V)->List (List Key×Addr×Value)->Prop:=Paired fun p q=>p.1=q.1/\H q.2.1=some (.tup (p.1.map kV))/\RelV p.2 q.2.2
theorem KT.val{H:Hp}{kvs:List (List Key×V)}{xs:List (List Key×Addr×Value)}(r:KT H kvs xs)(k:List Key):RelO (bI kvs k) ((atKey xs k).map (·.2)):=by
 induction r with
 |nil=>exact True.intro
 | @cons p q ps qs h t ih=>
  obtain ⟨h1,_,h2⟩:=h
  by_cases e:p.1=k
  ·have e':q.1=k:=h1.symm.trans e;have b:atKey (q::qs) k=some q.2:=by simp [atKey,List.find?_cons,e']
   rw [c9 e,b];exact h2
  ·have e':¬q.1=k:=fun z=>e (h1.trans z);have b:atKey (q::qs) k=atKey qs k:=by simp [atKey,List.find?_cons,e']
   rw [bW e,b];exact ih
theorem KT.repl{H:Hp}{kvs:List (List Key×V)}{xs:List (List Key×Addr×Value)}(r:KT H kvs xs)(k:List Key){y:V}{u:Value}(ry:RelV y u):
  KT H (kvs.map fun kv=>if kv.1=k then (kv.1,y) else kv) (xs.map (putAt k u)):=by
 induction r with
 |nil=>exact .nil
 | @cons p q ps qs h t ih=>
  rw [dh,dh];refine .cons ?_ ih;obtain ⟨h1,h2,h3⟩:=h;unfold putAt
  by_cases e:p.1=k
  ·rw [if_pos e,if_pos (h1.symm.trans e)];exact zAB h1 h2 ry
  ·rw [if_neg e,if_neg (fun z=>e (h1.trans z))];exact zAB h1 h2 h3
theorem KT.put{H:Hp}{kvs:List (List Key×V)}{xs:List (List Key×Addr×Value)}(r:KT H kvs xs)(k:List Key){b:Addr}{y:V}{u:Value}(hb:H b=some (.tup (k.map kV)))(ry:RelV y u):
  KT H (cv kvs k y) (storedH xs k b u):=by
 have e:(kvs.any fun kv=>decide (kv.1=k))=(atKey xs k).isSome:=by rw [cI,(r.val k).isSome_eq,Option.isSome_map]
 unfold cv storedH;rw [e]
 by_cases q:(atKey xs k).isSome=true
 ·rw [if_pos q,if_pos q];exact r.repl k ry
 ·rw [if_neg q,if_neg q];exact Paired.snoc r (zAB rfl hb ry)
theorem KT.keeps{H H':Hp}{kvs:List (List Key×V)}{xs:List (List Key×Addr×Value)}(r:KT H kvs xs)(ht:∀b ys,H b=some (.tup ys)->H' b=some (.tup ys)):KT H' kvs xs:=
 Paired.mapP r fun _ _ z=>zAB z.1 (ht _ _ z.2.1) z.2.2
section
variable {P:Program} {w:World} {H:Hp} {h:Heap} {a:Addr}
theorem CQ{u:HO}(ok:HOk P w H h)(e:Rd H a u):ObjOk P w H h a u:=e.ok ok
theorem gO{kvs:List (Key×V)}(ok:HOk P w H h)(e:Rd H a (.dK kvs)):kvs.length<=sizeLine/\(a==sysModules)=false/\∃vs,KV kvs vs/\h.DictOf (bi P w) a vs:=
 show ObjOk P w H h a (.dK kvs) from CQ ok e
theorem CA{kvs:List (Key×V)}(ok:HOk P w H h)(e:H a=some (.dK kvs)):kvs.length<=sizeLine/\(a==sysModules)=false/\∃vs,KV kvs vs/\h.DictOf (bi P w) a vs:=gO ok (.inl e)
theorem gZ{ks:List Key}(ok:HOk P w H h)(e:H a=some (.tup (ks.map kV))):(tupleKind (bi P w)).is h ks a:=by
 obtain ⟨_,its,r,o,h1,h2,n,h3⟩:=(show ObjOk P w H h a (.tup (ks.map kV)) from ok a _ e)
 exact zAH o its.toArray n h1 h2 h3 (by simpa using lR r)
theorem lQ{kvs:List (List Key×V)}(ok:HOk P w H h)(e:Rd H a (.dT kvs)):kvs.length<=sizeLine/\(a==sysModules)=false/\
  ∃xs,KT H kvs xs/\h.DictOfH (tupleKind (bi P w)) a xs:=by
 obtain ⟨z,y,xs,r,o,es,ep,h1,h2,h3,h4,h5⟩:=(show ObjOk P w H h a (.dT kvs) from CQ ok e)
 refine zAB z y (zn xs r (zBG o es ep h1 h2 h3 h4 (fun x hx=>?_) h5));have all:∀{l:List (List Key×V)} {m:List (List Key×Addr×Value)},KT H l m->∀x∈m,(tupleKind (bi P w)).is h x.1 x.2.1:=by
  intro l m q
  induction q with
  |nil=>intro x hx;exact nomatch hx
  | @cons p q ps qs hq t ih=>
   intro x hx;rcases zq5.mp hx with e | hx
   ·subst e;exact gZ ok (by rw [<- hq.1];exact hq.2.1)
   ·exact ih x hx
 exact all r x hx
theorem xx{kvs:List (List Key×V)}(ok:HOk P w H h)(e:H a=some (.dT kvs)):kvs.length<=sizeLine/\(a==sysModules)=false/\
  ∃xs,KT H kvs xs/\h.DictOfH (tupleKind (bi P w)) a xs:=lQ ok (.inl e)
end
def DGet(H:Hp)(a:Addr)(y:V)(r:Option V):Prop:=
 (∃kvs k,Rd H a (.dK kvs)/\y=kV k/\r=bI kvs k)\/∃kvs k b,Rd H a (.dT kvs)/\y=.ref b/\H b=some (.tup (k.map kV))/\r=bI kvs k
def DPut(H:Hp)(a:Addr)(y v:V)(H':Hp):Prop:=
 (∃kvs k,H a=some (.dK kvs)/\y=kV k/\kvs.length<sizeLine/\H'=upd H a (.dK (cv kvs k v)))\/
 ∃kvs k b,H a=some (.dT kvs)/\y=.ref b/\H b=some (.tup (k.map kV))/\kvs.length<sizeLine/\H'=upd H a (.dT (cv kvs k v))
theorem DGet.t{H:Hp}{a b:Addr}{kvs:List (List Key×V)}{k:List Key}(e:H a=some (.dT kvs))(eb:H b=some (.tup (k.map kV))):DGet H a (.ref b) (bI kvs k):=.inr (zAH kvs k b (.inl e) rfl eb rfl)
theorem DPut.k{H:Hp}{a:Addr}{kvs:List (Key×V)}{k:Key}{v:V}(e:H a=some (.dK kvs))(hl:kvs.length<sizeLine):DPut H a (kV k) v (upd H a (.dK (cv kvs k v))):=.inl (zAE kvs k e rfl hl rfl)
section
variable {X:Cx} {pins:List (Addr×Obj)} {σ:St} {H:Hp} {s:Shared} {a:Addr} {y v:V} {u r:Value} {o:Option V} {A:Around} {E:Value->Shared->Prop}
theorem Inv.big(I:Inv X pins σ H s):sysModules<s.heap.objs.size:=by have h:mainGlobals<s.heap.objs.size:=(I.mod.glob.keeps I.bk).lt;exact Nat.lt_trans Jm h
theorem vo{Q:Value->Shared->Prop}(hu:A.units+1<cLine)(I:Inv X pins σ H s)(g:DGet H a y (some v))(ry:RelV y u)(h:∀w' s',Inv X pins σ H s'->RelV v w'->Q w' s'):
  wpAny (model X.prog X.w) A (getItem (.ref a) u) Q E s:=by
 rcases g with ⟨kvs,k,e,ey,l⟩ | ⟨kvs,k,b,e,ey,eb,l⟩
 ·subst ey;obtain ⟨z,hd,vs,rel,dd⟩:=gO I.hok e;obtain ⟨w',hw,rw'⟩:=RelO.some_of (v:=v) (o:=valueAt vs k) (by rw [l];exact rel.val k);exact wpAny_getItem_of (lS ry) dd.mapOf hw (h w' _ (I.tok _) rw')
 ·subst ey
  cases (show u=Value.ref b from ry)
  obtain ⟨z,hd,xs,rel,dd⟩:=lQ I.hok e;obtain ⟨w',hw,rw'⟩:=RelO.some_of (v:=v) (o:=(atKey xs k).map (·.2)) (by rw [l];exact rel.val k);obtain ⟨p,hp,hp2⟩:=zq27.mp hw;refine wpAny_getItem_heap (tupleKind_room_in1 hu) (gZ I.hok eb) dd hp ?_;rw [hp2];exact h w' _ (I.tok _) rw'
theorem B3{Q:Value->Shared->Prop}(hu:A.units+1<cLine)(I:Inv X pins σ H s)(g:DGet H a y o)(ry:RelV y u)(h:∀s',Inv X pins σ H s'->Q (.bool (!o.isSome)) s'):
  wpAny (model X.prog X.w) A (compareOp .NotIn u (.ref a)) Q E s:=by
 rcases g with ⟨kvs,k,e,ey,l⟩ | ⟨kvs,k,b,e,ey,eb,l⟩
 ·subst ey;obtain ⟨z,hd,vs,rel,dd⟩:=gO I.hok e;refine wpAny_notIn_of (lS ry) hd dd.mapOf ?_;rw [<- (rel.val k).isSome_eq,<- l];exact h _ (I.tok _)
 ·subst ey
  cases (show u=Value.ref b from ry)
  obtain ⟨z,hd,xs,rel,dd⟩:=lQ I.hok e;refine wpAny_notIn_heap (tupleKind_room_in1 hu) (gZ I.hok eb) hd dd ?_;have q:=(rel.val k).isSome_eq;rw [Option.isSome_map] at q;rw [<- q,<- l];exact h _ (I.tok _)
theorem ju{h':Heap}{t':Nat}{ob:HO}(I:Inv X pins σ H s)(mu:Mut (H a))(hs:Heap.SameBut a s.heap h')(he:∃q,h'.get? a=some q)(new:ObjOk X.prog X.w (upd H a ob) h' a ob):
  Inv X pins σ (upd H a ob) {s with heap:=h',toks:=t'}:=
 I.write (x:=a) (e:=a) mu (.inl rfl) (fun b q hb z=>(hs.2 b hb).trans z) he new
theorem qX{P:Program}{w:World}{H':Hp}{h':Heap}{kvs:List (Key×V)}{vs:List (Key×Value)}(z:kvs.length<=sizeLine)(hd:(a==sysModules)=false)(rel:KV kvs vs)(dd:h'.DictOf (bi P w) a vs):
  ObjOk P w H' h' a (.dK kvs):=zAB z hd (zn vs rel dd)
theorem vp{H':Hp}{Q:Unit->Shared->Prop}(hu:A.units+1<cLine)(I:Inv X pins σ H s)(g:DPut H a y v H')(ry:RelV y u)(rv:RelV v r)(h:∀s',Inv X pins σ H' s'->Q () s'):
  wpAny (model X.prog X.w) A (setItem (.ref a) u r) Q E s:=by
 rcases g with ⟨kvs,k,e,ey,l,eH⟩ | ⟨kvs,k,b,e,ey,eb,l,eH⟩
 ·subst ey eH;obtain ⟨z,hd,vs,rel,dd⟩:=CA I.hok e;have hz:vs.length<=sizeLine:=by rw [<- rel.length];exact z
  have hl:(cv kvs k v).length<=sizeLine:=by have:=eE kvs k v;omega
  refine wpAny_setItem_pairs (hsz:=hz) (lS ry) dd fun h' dd' hs=>h _ ?_;have he:∃q,h'.get? a=some q:=let ⟨q,_,_,hq,_⟩:=dd';⟨q,hq⟩;exact ju I (by rw [e];exact True.intro) hs he (qX hl hd (rel.put k rv) dd')
 ·subst ey eH
  cases (show u=Value.ref b from ry)
  obtain ⟨z,hd,xs,rel,dd⟩:=xx I.hok e;have hz:xs.length<=sizeLine:=by rw [<- Paired.length rel];exact z
  have hl:(cv kvs k v).length<=sizeLine:=by have:=eE kvs k v;omega
  refine wpAny_setItem_heap (hsz:=hz) (tupleKind_room_in1 hu) (gZ I.hok eb) dd fun h' dd' hs=>h _ ?_;obtain ⟨q,es,ep,hq,h2,h3,h4,_,h5⟩:=dd';refine ju I (by rw [e];exact True.intro) hs ⟨q,hq⟩ (zAB hl hd (zn _ ((rel.put k eb rv).keeps fun c ys ec=>?_) (zAL q es ep hq h2 h3 h4 h5)));rw [aq (bN ec e (fun z=>nomatch z))];exact ec
end
section
variable {X:Cx} {pins:List (Addr×Obj)} {σ:St} {H:Hp} {s:Shared} {a:Addr} {kvs:List (Key×V)} {k:Key} {u:Value} {A:Around} {E:Value->Shared->Prop}
end
def F6(i:Expr):Prop:=∀ov iv,subscripted i false ov iv=operate [ov,iv] (getItem ov iv)
theorem Cc{prog:Program}{w:World}{A:Around}{E:Value->Shared->Prop}{s:Shared}{env:Env}{value slice:Expr}{pos:Pos}{T id:String}{Q:Value->Shared->Prop}
  (hl:typeLookup (.type T) "__getitem__"=pure (some (.builtin id))) (hs:F6 slice)
  (h:wpAny (model prog w) A (eval value env) (fun o s₁=>wpAny (model prog w) A (eval slice env) (fun i s₂=>s₂.TypeIs o T/\wpAny (model prog w) A (getItem o i) Q E s₂) E s₁) E s) :
  wpAny (model prog w) A (eval (.Subscript value slice pos) env) Q E s:=by
 refine Subscript_ (wpAny_mono h (fun o s₁ h₁=>wpAny_mono h₁ (fun i s₂ h₂=>?_) fun _ _ x=>x) fun _ _ x=>x);obtain ⟨hT,h₂⟩:=h₂;unfold subscriptTail;refine wpAny_bind ?_;rw [getitemInPython_of_ne hT.not_modules];refine wpAny_bind (wpAny_specialOf hT hl ?_);have fin:wpAny (model prog w) A (subscripted slice false o i) (fun r s₃=>wpAny (model prog w) A (letTemporaryGo value o r >>= fun _=>pure r) Q E s₃) E s₂:=by rw [hs o i];exact wpAny_operating (wpAny_mono h₂ (fun r s₃ h₃=>wpAny_bind (wpAny_letTemporaryGo (wpAny_pure h₃))) fun _ _ x=>x)
 first
  |exact wpAny_pure (wpAny_bind fin)
  |exact wpAny_bind (wpAny_pure (wpAny_bind fin))
  |exact wpAny_bind fin
theorem oF{X:Cx}{pins:List (Addr×Obj)}{σ:St}{H:Hp}{s:Shared}{a:Addr}{y:V}{o:Option V}(I:Inv X pins σ H s)(g:DGet H a y o):s.TypeIs (.ref a) "dict":=by
 rcases g with ⟨kvs,k,e,_,_⟩ | ⟨kvs,k,b,e,_,_,_⟩
 ·obtain ⟨_,_,vs,_,dd⟩:=gO I.hok e;exact dd.typeIs
 ·obtain ⟨_,_,xs,_,dd⟩:=lQ I.hok e;exact dd.typeIs
def CW(td ty:TE):TE:=fun σ H Q=>td σ H fun x H1=>ty σ H1 fun y H2=>∃a v,x=.ref a/\DGet H2 a y (some v)/\Q v H2
def uO(ty td:TE):TE:=fun σ H Q=>ty σ H fun y H1=>td σ H1 fun x H2=>∃a o,x=.ref a/\DGet H2 a y o/\Q (.bl (!o.isSome)) H2
def zt(td ty tv:TE):TS:=fun D σ H=>tv σ H fun v H1=>td σ H1 fun x H2=>ty σ H2 fun y H3=>∃a H4,x=.ref a/\DPut H3 a y v H4/\D.nx σ H4
section
variable {X:Cx} {o i e value:Expr} {pos pos' tpos:Pos} {td ty tv:TE}
theorem BG(hu:X.A.units+1<cLine)(ho:PE X o td)(hi:PE X i ty)(hv:PE X value tv)(hs:swapsWith value (some (.Subscript o i pos')) pos.line X.env=pure false):
  PS X (.Assign [.Subscript o i pos'] value pos) (zt td ty tv):=by
 intro pins s σ H D I h;refine wpAny_Assign_Subscript (thn (hv pins s σ H _ I h) fun r s1 ⟨v,H1,I1,rv,q1⟩=>thn (ho pins s1 σ H1 _ I1 q1) fun u s2 ⟨x,H2,I2,rx,q2⟩=>thn (hi pins s2 σ H2 _ I2 q2) fun iv s3 hhx=>?_) hs;obtain ⟨y,H3,I3,ry,a,H4,ex,g,q3⟩:=hhx;subst ex;obtain rfl:u=Value.ref a:=rx;exact vp hu I3 g ry rv fun s4 I4=>zAD σ H4 I4 q3
end
theorem xv{P:Program}{w:World}{H:Hp}(h:Heap)(hb:sysModules<h.objs.size):ObjOk P w H (h.push {cls:=.type "dict",data:=.dict #[]}) h.objs.size (.dK []):=
 (zAB (ce _) (beq_eq_false_iff_ne.mpr (Ne.symm (cD hb))) (zn ([]) .nil (Heap.DictOf.new h)))
theorem oI{P:Program}{w:World}{H:Hp}(h:Heap)(hb:sysModules<h.objs.size):ObjOk P w H (h.push {cls:=.type "dict",data:=.dict #[]}) h.objs.size (.dT []):=
 (zAB (ce _) (beq_eq_false_iff_ne.mpr (Ne.symm (cD hb))) (zn ([]) .nil (zAL _ (#[]) 0 (dy _ rfl) (zAB rfl rfl rfl) rfl rfl Cv)))
def zO:TE:=fun _ H Q=>∀p,H p=none->Q (.ref p) (upd H p (.dK []))
def zP:TE:=fun _ H Q=>∀p,H p=none->Q (.ref p) (upd H p (.dT []))
section
variable {X:Cx} {pos:Pos}
end
structure M1(X:Cx)(o:Expr)(m:Str)(apos:Pos)(e:Expr)(cpos:Pos):Prop where
 base:attributeBase o m X.env (eval o X.env)=eval o X.env
 few:((backTo cpos (starEach [e] X.env)).all (fun x=>!x.1)&&(backToKw cpos (keywordEach [] X.env)).all (fun x=>x.1.isSome)
  && decide (([e]:List Expr).length+([]:List Keyword).length+(if ([]:List Keyword).isEmpty then 0 else 1)<30))=true
 line:(apos.endLine==cpos.line)=true
 trees:backTo cpos (starEach [e] X.env)=[(false,eval e X.env)]
structure M2(X:Cx)(o:Expr)(m:Str)(apos:Pos)(e f:Expr)(cpos:Pos):Prop where
 base:attributeBase o m X.env (eval o X.env)=eval o X.env
 few:((backTo cpos (starEach [e,f] X.env)).all (fun x=>!x.1)&&(backToKw cpos (keywordEach [] X.env)).all (fun x=>x.1.isSome)
  && decide (([e,f]:List Expr).length+([]:List Keyword).length+(if ([]:List Keyword).isEmpty then 0 else 1)<30))=true
 line:(apos.endLine==cpos.line)=true
 trees:backTo cpos (starEach [e,f] X.env)=[(false,eval e X.env),(false,eval f X.env)]
def IsD(H:Hp)(a:Addr):Prop:=(∃kvs,Rd H a (.dK kvs))\/∃kvs,Rd H a (.dT kvs)
theorem xN{X:Cx}{pins:List (Addr×Obj)}{σ:St}{H:Hp}{s:Shared}{a:Addr}(I:Inv X pins σ H s)(d:IsD H a):
  s.TypeIs (.ref a) "dict"/\(∀b,Value.ref a=.ref b->∃ob,s.heap.get? b=some ob/\ob.dict=none)/\(a==sysModules)=false:=by
 rcases d with ⟨kvs,e⟩ | ⟨kvs,e⟩
 ·obtain ⟨_,hd,vs,_,dd⟩:=gO I.hok e;refine zAB dd.typeIs (fun b q=>?_) hd
  cases q
  obtain ⟨ob,_,_,h1,h2,_⟩:=dd;exact zn ob h1 h2.2.1
 ·obtain ⟨_,hd,xs,_,dd⟩:=lQ I.hok e;refine zAB dd.typeIs (fun b q=>?_) hd
  cases q
  obtain ⟨ob,_,_,h1,h2,_⟩:=dd;exact zn ob h1 h2.2.1
section
variable {X:Cx} {pins:List (Addr×Obj)} {σ:St} {H:Hp} {s:Shared} {a:Addr} {y d:V} {u r:Value} {o:Option V} {A:Around} {E:Value->Shared->Prop}
theorem Dk{Q:Value->Shared->Prop}(hu:A.units+1<cLine)(I:Inv X pins σ H s)(g:DGet H a y o)(ry:RelV y u)(rd:RelV d r)(h:∀w' s',Inv X pins σ H s'->RelV (o.getD d) w'->Q w' s'):
  wpAny (model X.prog X.w) A (call (.builtin "dict.get") [.ref a,u,r]) Q E s:=by
 rcases g with ⟨kvs,k,e,ey,l⟩ | ⟨kvs,k,b,e,ey,eb,l⟩
 ·subst ey;obtain ⟨z,hd,vs,rel,dd⟩:=gO I.hok e;refine call_meetsIn PySem.F.slot_dict_get dd.typeIs PySem.F.entry_dict_get (PySem.F.args_dict_get_3 _ _ _) (meets_dict_get_default (bi X.prog X.w) a (lS ry) hd r) (zn _ dd.mapOf (h _ _ (I.tok _) ?_));rw [l];exact (rel.val k).getD rd
 ·subst ey
  cases (show u=Value.ref b from ry)
  obtain ⟨z,hd,xs,rel,dd⟩:=lQ I.hok e;refine call_meetsIn PySem.F.slot_dict_get dd.typeIs PySem.F.entry_dict_get (PySem.F.args_dict_get_3 _ _ _) (meetsH_dict_get_default (tupleKind (bi X.prog X.w)) a b hd r) ⟨tupleKind_room_in1 hu,zAA k xs (gZ I.hok eb) dd (h _ _ (I.tok _) ?_)⟩;rw [l];exact (rel.val k).getD rd
end
def zN(td ty tx:TE):TE:=fun σ H Q=>td σ H fun x H1=>∃a,x=.ref a/\IsD H1 a/\ty σ H1 fun y H2=>tx σ H2 fun z H3=>∃o,DGet H3 a y o/\Q (o.getD z) H3
section
variable {X:Cx} {o e f:Expr} {apos cpos:Pos} {td ty tx:TE}
end
section
variable {X:Cx} {pins:List (Addr×Obj)} {σ:St} {H:Hp} {s:Shared} {a:Addr} {kvs:List (Key×V)} {A:Around} {E:Value->Shared->Prop}
end
section
variable {X:Cx} {pins:List (Addr×Obj)} {σ:St} {H:Hp} {s:Shared} {a:Addr} {y:V} {u:Value} {A:Around} {E:Value->Shared->Prop}
end
end L2
end
namespace Att
open PySem PySem.W PySem.Calls PyProof.Rows
theorem jn{P:Params}{h:Heap}:∀(ns:List Int)(vs:List Value),WellAll P h vs (ns.map WData.int)->IntsAre vs ns:=by
 intro ns
 induction ns with
 |nil=>
  intro vs w;rw [List.map_nil] at w
  cases w
  exact .nil
 |cons n ns ih=>
  intro vs w;rw [dh] at w
  cases w with
  |cons a b=>
   cases a
   exact .cons _ _ (ih _ b)
theorem wF{l:OpenLaw}{n:Nat}(hn:l.most=some n){P:Params}{h:Heap}{args:List WData}{vals:List Value}
  (hpre:l.row.toRowW.claim.pre args=true) (hwl:WellAll P h vals args) :
  ∃a vs ns,vals=[Value.ref a]/\args=[WData.list (ns.map WData.int)]/\h.get? a=some {cls:=.type "list",data:=.seq vs.toArray}/\IntsAre vs ns/\ns.length<=n:=by
 have hsh:WShape.hasAll [] args [.list .int]=true:=(pre_splitW hpre).1;have hc:l.pre.holds [] {args:=args}=true:=(pre_splitW hpre).2;obtain ⟨d,r,rfl,h1,h2⟩:=hasAllW_cons hsh;obtain rfl:=hasAllW_nil h2;obtain ⟨xs,rfl,h3⟩:=hasW_list h1;obtain ⟨ns,rfl⟩:=items_int h3;have hlen:ns.length<=n:=by
  unfold OpenLaw.pre at hc;have h4:(WTm.not (.lt (.lit (.int (n:Int))) (.len (.arg 0)))).holds [] {args:=[.list (ns.map .int)]}=true:=by have h4:=(holds_andW hc).1;rw [hn] at h4;exact h4
  have h5:=condW_of h4 (w_not (w_lt w_lit (w_len_list (w_arg rfl))));rw [zq1] at h5;refine Nat.le_of_not_lt fun q=>?_;have q':(n:Int)<((ns.length:Nat):Int):=by omega
  first
   | (rw [decide_eq_true q'] at h5;exact absurd h5 Jm)
   | (simp at h5;omega)
 cases hwl with
 |cons w1 w2=>
  cases w2
  cases w1 with
  |list ho hall=>exact zAL _ _ ns rfl rfl ho (jn ns _ hall) hlen
theorem wk(l:OpenLaw)(args:List WData):l.row.toRowW.claim.post args (.bool true) args=true:=
 postW_of (r:=l.row.toRowW) (X:=(true==true))
  (show WShape.has [] (.bool true) .bool=true by first | rfl | decide | simp [WShape.has,WShape.arms,WShape.armsAll])
  (show (WTm.eq .res (.lit (.bool true))).value [] {args:=args,res:=some (.bool true),after:=args}=some (.bool (true==true)) from w_eq_bool (w_res rfl) w_lit) rfl
section
variable {prog:Program} {w:World} {A:Around} {E:Value->Shared->Prop} {s:Shared} {K:Frag}
end
end Att
namespace L2
open PySem PySem.Spec PyProof.Rows
theorem j3:∀{vs:List Value} {ns:List Int},IntsAre vs ns->Vals (ns.map V.int) vs
 |_,_,.nil=>.nil
 |_,_,.cons n t h=>.cons ⟨t,rfl⟩ (j3 h)
def Dc(H:Hp):Prop:=∀b,H b=none\/∃o xs,H b=some (.frz o (.lst xs))
theorem xS{P:Program}{w:World}{K:W.Frag}{mg mb:Str->Option Value}{CX:CXT}{k:Nat}{fa a:Addr}{fd:FuncData}{x:Str}{sp:Sp}{s₁:Shared}{vs:List Value}{ns:List Int}
  (KX:K.In s₁.heap) (hns:s₁.heap.Ns mainGlobals mg) (hb:s₁.heap.Ns builtinsNs mb) (hbb:∀x:Str,x≠"__name__"->mb x=bootBuiltins x) (hlim:s₁.heap.NoLimit) (hg:s₁.gens=#[])
  (ha:s₁.heap.get? a=some {cls:=.type "list",data:=.seq vs.toArray}) (hi:IntsAre vs ns) (hl:ns.length<=sizeLine) (hr:Room k callerA)
  (F:∀base:Heap,K.In base->base.Ns mainGlobals mg->FnOk P w K mg base CX k fa fd [x] sp) (hbind:∀(s:Shared)(u:Value),BindsTo s fd ⟨[u],[]⟩ [(x,u)])
  (hsp:∀H:Hp,Dc H->SqL K H a (ns.map V.int)->sp [.ref a] H (fun v _=>v=.bl true) fun _ _ _=>False)
  (hCX:∀H e s',CX [] H s₁ (fun _ _ _=>False) e s'->False) :
  codeAny (model P w) callerA (.call (.ref fa) ⟨[.ref a],[]⟩) (fun r s'=>r=.ok (.ret (.bool true))/\OldK s₁.heap s'.heap/\s'.os=s₁.os/\AllBare s'.gens) s₁:=by
 have rv:=j3 hi;have lenV:=hi.length;have core:∀H:Hp,Dc H->SqL K H a (ns.map V.int)->HOk P w H s₁.heap->(∀b,H b≠none->b=a)->(H a≠none->K.lookup a=none)->
   codeAny (model P w) callerA (.call (.ref fa) ⟨[.ref a],[]⟩) (fun r s'=>r=.ok (.ret (.bool true))/\OldK s₁.heap s'.heap/\s'.os=s₁.os/\AllBare s'.gens) s₁:=by
  intro H hO hS hok hA hK;have base_of:∀{b:Addr} {o:Obj},s₁.heap.get? b=some o->H b=none->(mK s₁.heap H).get? b=some o:=fun e n=>xH e n;have noA:∀{b:Addr} {o:Obj} {es:Array DictEntry} {ep:Nat},s₁.heap.get? b=some o->o.data=.dict es ep->H b=none:=fun {b o es ep} e d=>by
   cases q:H b with
   |none=>rfl
   |some u=>
    have e':b=a:=hA b (by rw [q];simp);subst e';rw [ha] at e;cases e;have d':Data.seq vs.toArray _=Data.dict es ep:=d
    cases d'
  have nsK:∀{b:Addr} {m:Str->Option Value},s₁.heap.Ns b m->(mK s₁.heap H).Ns b m:=fun {b m} ⟨o,es,ep,e,d,r⟩=>zAO o es ep (base_of e (noA e d)) d r
  have hKb:K.In (mK s₁.heap H):=fun b o e=>base_of (KX b o e) (by
   cases q:H b with
   |none=>rfl
   |some u=>have e':b=a:=hA b (by rw [q];simp);subst e';rw [hK (by rw [q];simp)] at e;cases e)
  have hM:Mod K mg (mK s₁.heap H):=⟨hKb,nsK hns,zn mb (nsK hb) hbb,let ⟨mc,h1,h2⟩:=hlim;(zn mc (nsK h1) h2)⟩
  have e0:Env0 P w K mg (mK s₁.heap H) callerA [] s₁ H:=⟨rfl,hM,fun b o e=>Bh e,x2 (vA _ _),trivial,fun b hb=>absurd (show b∈([]:List Addr) from hb) Jo,hok,.of_eq hg⟩
  refine codeAny_mono ((F _ hKb (nsK hns)).run callerA [] s₁ H ⟨[.ref a],[]⟩ [.ref a] [.ref a] _ _ hr e0 (hbind s₁ (.ref a)) (.cons rfl .nil) (hsp H hO hS)) fun r s' h=>?_
  cases r with
  |error e=>exact (hCX H e s' h).elim
  |ok fl=>
   cases fl with
   |next=>exact False.elim h
   |brk=>exact False.elim h
   |cont=>exact False.elim h
   |ret u=>
    obtain ⟨v,H',os,bare,un,hok',r',q⟩:=h;have q':v=.bl true:=q;subst q';obtain rfl:u=Value.bool true:=r';refine zAG rfl (OldK.of_keep fun b o e=>?_) os bare
    cases q:H b with
    |none=>exact un.keep b o e q (by intro z;exact absurd (show b∈([]:List Addr) from z) Jo) Jo
    |some u=>
     rcases hO b with z | ⟨ob,xs,z⟩
     ·rw [q] at z;cases z
     ·have z2:=un.frzs b ob _ z;obtain ⟨e1,_⟩:=hok b _ z;obtain ⟨e2,_⟩:=hok' b _ z2;rw [e] at e1;cases e1;exact e2
 cases hk:K.lookup a with
 |some o=>
  have e:=KX a o hk;rw [ha] at e
  cases e
  refine core (fun _=>none) (fun _=>.inl rfl) (.inr (zBG _ vs.toArray _ hk rfl rfl rfl (by rw [fL,lenV];exact hl) (by simpa using rv))) (fun b u z=>by have z':(none:Option HO)=some u:=z;cases z') (fun b z=>absurd rfl z) fun z=>absurd rfl z
 |none=>
  refine core (fun b=>if b=a then some (.frz {cls:=.type "list",data:=.seq vs.toArray} (.lst (ns.map V.int))) else none) (fun b=>?_) (.inl (.inr ⟨{cls:=.type "list",data:=.seq vs.toArray},if_pos rfl⟩)) (fun b u z=>?_) (fun b z=>?_) fun _=>hk
  ·by_cases hb:b=a
   ·exact .inr (zAM _ _ (if_pos hb))
   ·exact .inl (if_neg hb)
  ·by_cases hb:b=a
   ·have z':=(if_pos hb).symm.trans z
    cases z'
    subst hb;exact zAB ha (by rw [zq1];exact hl) (zAD vs _ rv ha)
   ·have z':=(if_neg hb).symm.trans z
    cases z'
  ·by_cases hb:b=a
   ·exact hb
   ·exact absurd (if_neg hb) z
end L2
namespace L2
open PySem PySem.Spec PyProof.Rows
end L2
/- THE LAST THEOREM (shape;LID,My.* are yours):
   My.Adr: a structure of the addresses that your layer names (classes,functions);My.Txt K t: a structure (Prop) of the equations over K;
   My.txt_mk:{K} {implicit addresses ..} (e1:nsIn K mainGlobals "law"=some (some (.ref f))) (e2:K.lookup f=some ⟨oc,od,.func (fnOf "law" "law" params body scope dV kV doc pm an cdv ct),sl⟩) (e3:codeIn K cdv "law"=true) ..:∃t,My.Txt K t
set_option maxRecDepth 100000 in
set_option maxHeartbeats 0 in
theorem PySem.Challenge.cw_LID_holds:PySem.Challenge.rw_LID.Holds:=by
 w_on;o_law;k_head;(case hw=>w_witness2)
 k_fill
 refine L2.walk_of (l:=PySem.Challenge.rw_LID) (n:=63) (k:=40) (x:="script") (CX:=fun w=>..) (sp:=fun _=>My.sp_law) rfl Jm rfl ⟨rfl,Jm,Jm⟩ (fun w h Y=>W.kIn_of Y) ?F ?S ?C
 case F=>
  intro w mg fa h KX G hmg;have T:∃t,My.Txt (L2.KOf KX) t:=by
   dsimp only [L2.KOf]                          -- K must stand as «<heap const> w.params» for k_is;refine' My.txt_mk ?e1 ?e2 ?e3 ..
   (case e1=>W.k_is)                    -- in the order: a name->its address->its object->its parts
   (case e2=>W.k_is)
   ..
  obtain ⟨t,T⟩:=T;have e0:=hmg.symm.trans (W.mg_of KX G T.law)
  cases e0                                       -- fa is the law's own address
  exact ⟨_,fun s u=>.of_eq rfl,fun base kb nb=>My.law_fn T kb nb⟩     -- if «.of_eq rfl» comes too early: refine' ⟨_,?b,fun base kb nb=>My.law_fn T kb nb⟩;exact fun s u=>.of_eq rfl
 case S=>exact fun w H a ns hl hO hS=>..
 case C=>exact ..
(the tactic k_is has no namespace: write k_is) -/
section
open PySem PySem.Spec PyProof.Rows
namespace L2
variable {H:Hp} {f:Addr} {qual x:Str}
def bK(s:Stmt)(j:Nat):Stmt:=match s with
 | .ClassDef _ _ _ body _ _ _ _ _ _ _=>body.getD j (.Pass ⟨0,0,0,0⟩)
 |_=>.Pass ⟨0,0,0,0⟩
def dJ(s:Stmt):Arguments:=match s with
 | .FunctionDef _ a _ _ _ _ _ _ _ _=>a
 |_=>{posonlyargs:=[],args:=[],vararg:=none,kwonlyargs:=[],kw_defaults:=[],kwarg:=none,defaults:=[]}
def dz(s:Stmt):List Stmt:=match s with
 | .FunctionDef _ _ b _ _ _ _ _ _ _=>b
 |_=>[]
def az(s:Stmt):Scope:=match s with
 | .FunctionDef _ _ _ _ _ _ sc _ _ _=>sc
 |_=>{kind:=.function,names:=[],isGenerator:=false,isCoroutine:=false}
abbrev CX0:CXT:=fun _ _ _ _ _ _=>False
abbrev E0:XK:=fun _ _ _=>False
theorem pG{X:Cx}:fq CX0 X E0:=fun _ _ _ _ _ _ _ h=>h.elim
structure Fun(K:W.Frag)(x qual:Str)(st:Stmt)(f:Addr)(fd:FuncData):Prop where
 ex:∃(oc:Value)(od:Option Addr)(kV doc pm:Value)(an:Option Addr)(cdv ct:Value)(osl:Array (Option Value)),
  fd=W.fnOf x qual (dJ st) (dz st) (az st) .none kV doc pm an cdv ct/\K.lookup f=some ⟨oc,od,.func fd,osl⟩/\W.codeIn K cdv qual=true
 kp:W.keepIn K (.ref f)=true
section
variable {P:Program} {w:World} {K:W.Frag} {mg:Str->Option Value} {base:Heap}
theorem Fun.ok{st:Stmt}{fd:FuncData}{N ps:List Str}{k:Nat}{sp:Sp}(F:Fun K x qual st f fd)(S:aE N ps (az st))(len:∀vs H Q E,sp vs H Q E->vs.length=ps.length)
 (hbody:∀(cdv:Value)(A:Around)(outer:List Env)(s:Shared)(H:Hp)(vs:List V)(Q:VK)(E:XK),Room k (A.deeper (envOfC qual (az st) s.heap.objs.size f cdv))->sp vs H Q E->
 ∃t,PSs (qW CX0 P w K mg base N qual (az st) f cdv A outer s H E).nox (dz st) t/\t {nx:=fun _ H'=>Q .non H',rt:=Q} (aL N vs) H):FnOk P w K mg base CX0 (k+1) f fd ps sp:=by
 obtain ⟨oc,od,kV,doc,pm,an,cdv,ct,osl,rfl,lk,hcd⟩:=F.ex;refine Ff lk hcd S len fun A outer s H vs Q E hr hsp=>?_;obtain ⟨t,h,q⟩:=hbody cdv A outer s H vs Q E hr hsp;exact zn t h.nox q
theorem Fun.binds{st:Stmt}{fd:FuncData}{ps:List Str}(F:Fun K x qual st f fd)
 (h:∀(kV doc pm:Value)(an:Option Addr)(cdv ct:Value)(us:List Value),us.length=ps.length->bindArgs (W.fnOf x qual (dJ st) (dz st) (az st) .none kV doc pm an cdv ct) ⟨us,[]⟩=pure (ps.zip us)):Binds K fd ps []:=by
 obtain ⟨oc,od,kV,doc,pm,an,cdv,ct,osl,rfl,lk,hcd⟩:=F.ex;exact .all (h kV doc pm an cdv ct)
theorem mI{st:Stmt}{oc:Value}{od an:Option Addr}{osl:Array (Option Value)}{kV doc pm cdv ct:Value}(l:K.lookup f=some ⟨oc,od,.func (W.fnOf x qual (dJ st) (dz st) (az st) .none kV doc pm an cdv ct),osl⟩)
 (c:W.codeIn K cdv qual=true) (k:W.keepIn K (.ref f)=true):Fun K x qual st f (W.fnOf x qual (dJ st) (dz st) (az st) .none kV doc pm an cdv ct):=⟨zBH oc od kV doc pm an cdv ct osl (zAB rfl l c),k⟩
end
theorem cT{A:Around}{k:Nat}(hr:Room k A):A.units+1<cLine:=Cw (Nat.add_le_add_left (by decide:1<=64) _) hr.units
section
variable {X:Cx}
end
theorem Fl{A B:Prop}(h:B):if false=true then A else B:=by rw [if_neg zq6];exact h
theorem Iw{A B:Prop}(h:A):if true=true then A else B:=by rw [if_pos rfl];exact h
theorem k8{c A B:Prop}[Decidable c](hc:c)(h:B):if (!decide c)=true then A else B:=by rw [decide_eq_true hc];exact Fl h
def Same(H H':Hp):Prop:=∀b o,H b=some o->H' b=some o
theorem Same.refl(H:Hp):Same H H:=fun _ _ h=>h
theorem Same.trans{H1 H2:Hp}(a:Same H H1)(b:Same H1 H2):Same H H2:=fun c o h=>b c o (a c o h)
theorem Same.free{H':Hp}(e:Same H H'){l:Addr}(h:H' l=Option.none):H l=Option.none:=by
 cases q:H l with
 |none=>rfl
 |some o=>
  rw [e l o q] at h
  cases h
theorem Same.seq{K:W.Frag}{H':Hp}{a:Addr}{xs:List V}(e:Same H H')(h:SqL K H a xs):SqL K H' a xs:=by
 rcases h with (h | ⟨o,h⟩) | h
 ·exact .inl (.inl (e _ _ h))
 ·exact .inl (.inr ⟨o,e _ _ h⟩)
 ·exact .inr h
end L2
namespace L2
section
variable {X:Cx}
end
section
variable {κ:Type} [DecidableEq κ]
theorem zY{kvs:List (κ×V)}{k:κ}(h:bI kvs k=none):¬k∈kvs.map (·.1):=by intro m;obtain ⟨p,hp,e⟩:=zq21.mp m;have q:(kvs.any fun kv=>decide (kv.1=k))=true:=zq69.mpr (zn p hp (decide_eq_true e));rw [cI,h] at q;exact absurd q Jo
theorem tP:∀{l:List κ} {k:κ},l.Nodup->¬k∈l->(l++[k]).Nodup
 | [],k,_,_=>by simp
 |a::r,k,h,hk=>by
  obtain ⟨h1,h2⟩:=zq41.mp h;show (a::(r++[k])).Nodup;refine zq41.mpr ⟨fun m=>?_,tP h2 fun m=>hk (zq5.mpr (Or.inr m))⟩;rcases zq15.mp m with q | q
  ·exact h1 q
  ·exact hk (zq5.mpr (Or.inl (zq2.mp q).symm))
theorem Be{kvs:List (κ×V)}{k:κ}(v:V)(hn:(kvs.map (·.1)).Nodup)(h:bI kvs k=none):((cv kvs k v).map (·.1)).Nodup:=by rw [pI v h,cS];exact tP hn (zY h)
end
end L2
namespace L2
section
variable {X:Cx}
def CDivB(i j:Int):Prop:=0<j/\j.natAbs.log2<9000
theorem yt:OpR X (binaryOp .FloorDiv) (rI CDivB fun i j=>.int (i / j)):=opI fun i j _ _ _ _ _ hc q=>by have h1:(0:Int)<j:=hc.1;exact floordiv_int Jn (by rw [Int.fdiv_eq_ediv_of_nonneg i Jn];exact q) (.inl (PyProof.noPylong_of_log2 hc.2))
theorem CDivB.small{i j:Int}(h:0<j)(h2:j<1073741824):CDivB i j:=⟨h,by have h3:j.natAbs.log2<30:=(Nat.log2_lt Jn).mpr Jn;omega⟩
end
theorem aF{c A B:Prop}[Decidable c](h1:c->A)(h2:¬c->B):if decide c=true then A else B:=by
 by_cases h:c
 ·rw [if_pos (decide_eq_true h)];exact h1 h
 ·rw [if_neg (fun q=>h (of_decide_eq_true q))];exact h2 h
theorem fU{c A B:Prop}[Decidable c](h1:¬c->A)(h2:c->B):if (!decide c)=true then A else B:=by
 by_cases h:c
 ·rw [decide_eq_true h];exact Fl (h2 h)
 ·rw [decide_eq_false h];exact Iw (h1 h)
structure b8(K:W.Frag)(mg:Str->Option Value)(x:Str)(st:Stmt)(ps:List Str)(f:Addr)(fd:FuncData):Prop where
 F:Fun K x x st f fd
 B:Binds K fd ps []
 M:mg x=some (.ref f)
theorem yx{X:Cx}{k:Nat}{f:Addr}{fd:FuncData}{ps:List Str}{sp:Sp}{x:Str}{st:Stmt}{p pos:Pos}{e:Expr}{es:List Expr}{t:TA}(D:b8 X.K X.mg x st ps f fd)(G:FnOk X.prog X.w X.K X.mg X.base CX0 k f fd ps sp)(hr:Room k X.A)
  (ha:PA X (e::es) t) (hg:Gl X x:=by rfl) (hdb:(x==("__debug__":Str))=false:=by decide) (he:starEach (e::es) X.env=(false,eval e X.env)::starEach es X.env:=by rfl) (hpl:(backTo pos (starEach es X.env)).any (·.1)=false:=by rfl) :
  PE X (.Call (.Name x p) (e::es) [] pos) (qA sp [] E0 t):=BC G hr hg D.M D.F.kp D.B .nil pG ha hdb he hpl
def Ite(K:W.Frag)(a:Addr):It:=
  ⟨fun i H=>∃xs x,SqL K H a xs/\xs[i]?=some x,
   fun i H x H'=>∃p y,x=.ref p/\H p=none/\H'=upd H p (.tup [.int i,y])/\∀xs,SqL K H a xs->xs[i]?=some y,
   fun i H=>∃xs,SqL K H a xs/\xs.length<=i⟩
theorem wN{P:Program}{w:World}{K:W.Frag}{elts:List Expr}{k0:Nat}{pos0:Pos}(a e it:Addr)(hei:e≠it):
  jJ P w K (.Tuple elts k0 pos0) (Ite K a) [e,it] e (fun i h=>(∃old,IsEnum h e it i old)/\h.IsListIter it a i) where
 mem:=by simp
 obj:=fun i h ⟨⟨old,he⟩,hit⟩ b hb=>by
  rcases zq5.mp hb with rfl | hb
  ·exact ⟨_,he,fun v z=>by
    have z':Data.fields _=Data.cell v:=z
    cases z'⟩
  ·have e':b=it:=by simpa using hb
   subst e';obtain ⟨o,q,c,d⟩:=hit;exact zn o q fun v z=>by rw [d] at z;cases z
 keep:=fun i h h' ⟨⟨old,he⟩,hit⟩ k=>⟨⟨old,k e Jo _ he⟩,hit.at fun o q=>k it Jo o q⟩
 item:=by
  intro X hP hw hK hc i pins s σ H E I hf st hg;subst hP hw hK;obtain ⟨xs,x,hq,hx⟩:=hg;obtain ⟨its,rv,p,hz⟩:=I.list hq;obtain ⟨u,hu,ru⟩:=rv.get hx;obtain ⟨⟨old,he⟩,hit⟩:=st;obtain ⟨f0,f1,f2,f3,f4,f5⟩:=hf e Jo;obtain ⟨g0,g1,g2,g3,g4,g5⟩:=hf it Jo;refine wpAny_pyNext_enum_item he hit p.isList (x:=u) (by simpa using hu) hei fun h1 ho hit1 hT hsz hk=>?_;refine zn _ rfl (wpAny_letOwnedTupleGo_enum ho fun h2 he2 hs2=>?_);replace hs2:Heap.SameBut e h1 h2:=hs2;have helt:e<s.heap.objs.size:=zq7 he;have hk2:∀b o,b≠e->b≠it->s.heap.get? b=some o->h2.get? b=some o:=fun b o b1 b2 q=>(hs2.2 b b1).trans (hk b o b1 b2 q);have hT2:h2.get? s.heap.objs.size=some {cls:=.type "tuple",data:=.seq #[.int i s.toks,u]}:=(hs2.2 _ (lh helt)).trans hT;have hn:H s.heap.objs.size=none:=I.hok.fresh (zq0 _);have nE:∀b v,H b=some v->b≠e:=fun b v q z=>by rw [z,f0] at q;cases q
  have nI:∀b v,H b=some v->b≠it:=fun b v q z=>by rw [z,g0] at q;cases q
  have ok2:HOk X.prog X.w H h2:=fun b v q=>(I.hok b v q).stay (fun c v' hc r=>by
   rcases hc with z | z
   ·exact hk2 c v' (by rw [z];exact nE b v q) (by rw [z];exact nI b v q) r
   ·exact hk2 c v' (nE c _ z) (nI c _ z) r) (fun _ r=>r) fun _ _ r=>r
  have ok3:HOk X.prog X.w (upd H s.heap.objs.size (.tup [.int i,x])) h2:=fun b v q=>by
   by_cases hb:b=s.heap.objs.size
   ·subst hb;rw [aj] at q
    cases q
    exact ⟨by show 2<=sizeLine;decide,zn ([.int i s.toks,u]) (.cons ⟨_,rfl⟩ (.cons ru .nil)) (zAC _ hT2 rfl ⟨_,rfl⟩)⟩
   ·rw [aq hb] at q;exact (ok2 b v q).stay (fun c v' _ r=>r) (fun c r=>by rw [aq (ao r hn)];exact r) fun c ys r=>by rw [aq (ao r hn)];exact r
  have nlt:∀{b:Addr} {o:Obj},s.heap.get? b=some o->b≠s.heap.objs.size:=fun q=>cD (zq7 q);have I2:Inv X pins σ (upd H s.heap.objs.size (.tup [.int i,x])) {s with heap:=h2,toks:=s.toks+1}:=
   I.step (g':=s.gens) (d':=s.drawn) (ch:=[e,it]) (fun b hb=>by
     rcases zq5.mp hb with rfl | hb
     ·exact zAG f3 f1 f4 f5
     ·have e':b=it:=by simpa using hb
      subst e';exact zAG g3 g1 g4 g5)
    (fun b o _ _ hc q _=>hk2 b o (fun z=>hc (by simp [z])) (fun z=>hc (by simp [z])) q)
    (fun b o _ _ hc q _=>⟨o.slots,hk2 b o (fun z=>hc (by simp [z])) (fun z=>hc (by simp [z])) q⟩)
    (fun b o _ q n=>by rw [aq (nlt q)];exact n)
    (fun b o hc q=>⟨o,hk2 b o (fun z=>hc (by simp [z])) (fun z=>hc (by simp [z])) q⟩)
    (fun b ys q=>by rw [aq (ao q hn)];exact q) (fun b o v q=>by rw [aq (ao q hn)];exact q) (fun b ps q=>⟨#[],by rw [aq (ao q hn),q];simp⟩)
    (fun m ⟨o,es,ep,hm,r⟩=>zAI o es ep (hk2 _ o (Ne.symm f1) (Ne.symm g1) hm) r) ok3 I.bare
  refine zAS (.ref s.heap.objs.size) _ I2 rfl (zAE _ x rfl hn rfl fun ys hy=>by rw [I.list_inj hy hq];exact hx) ⟨⟨_,by simpa using he2⟩,hit1.at fun o y=>(hs2.2 it hei.symm).trans y⟩ fun b hb=>?_;rcases zq5.mp hb with rfl | hb
  ·rw [aq (cD helt)];exact f0
  ·have e':b=it:=by simpa using hb
   subst e';obtain ⟨o,q,_⟩:=hit;rw [aq (nlt q)];exact g0
 done:=by intro X hP hw hK hc i pins s σ H E I hf st hg;subst hP hw hK;obtain ⟨xs,hq,hx⟩:=hg;obtain ⟨its,rv,p,hz⟩:=I.list hq;obtain ⟨⟨old,he⟩,hit⟩:=st;obtain ⟨g0,g1,g2,g3,g4,g5⟩:=hf it Jo;have hl:=rv.length;exact wpAny_pyNext_enum_end (I.ok.hd hc) he hit p.isList (by simp;omega) fun h' eb=>⟨rfl,I.turned (t':=s.toks) (it:=it) (fun b o hb q=>eb b o hb q) g0 g1 g3 g4 g5⟩
 self:=fun _ _ _ _ _ ⟨⟨_,he⟩,_⟩ h=>wpAny_pyIter_enum he h
def xJ(K:W.Frag)(ta:TA):TI:=fun σ H R=>ta σ H fun vs H1=>∃a,vs=[.ref a]/\(∃xs,SqL K H1 a xs)/\R (Ite K a) H1
theorem BF{X:Cx}{a:Expr}{ta:TA}{p pos pos0:Pos}{elts:List Expr}{k0:Nat}(hm:X.mg "enumerate"=none) (ha:PA X [a] ta) (hg:Gl X "enumerate":=by rfl) (hs:starEach [a] X.env=[(false,eval a X.env)]:=by rfl) :
  PI X (.Tuple elts k0 pos0) (.Call (.Name "enumerate" p) [a] [] pos) (xJ X.K ta):=by
 intro pins s σ H R I h;refine Call_ (dH I hg hm boot_enumerate (PyProof.Rows.callWith_type1 (thn (ha pos pins s σ H _ I h) fun us s1 hhx=>?_) hs rfl));obtain ⟨vs,H1,I1,r1,q1⟩:=hhx;obtain ⟨l,e,⟨xs,hq⟩,q⟩:=q1;subst e
 cases r1 with
 |cons r rr=>
  cases rr
  cases r
  obtain ⟨its,rv,pl,hz⟩:=I1.list hq;refine call_enumerate_list pl.isList fun h' he hit hsz hk=>?_;refine wpAny_pyIter_enum he ?_;have I2:Inv X pins σ H1 {s1 with heap:=h'}:=I1.kept (t':=s1.toks) hk;refine zAV (s1.heap.objs.size+1) ([s1.heap.objs.size+1,s1.heap.objs.size]) _ _ H1 rfl I2 (wN l _ _ (Nat.succ_ne_self _)) ⟨⟨_,he⟩,hit⟩ (fun b hb=>?_) q;have hle:s1.heap.objs.size<=b:=by
   rcases zq5.mp hb with rfl | hb
   ·exact qK _
   ·rw [zq2.mp hb];exact zq0 _
  exact I1.fpOk hle (I1.hok.fresh hle)
theorem xA{K:W.Frag}{a:Addr}{xs:List V}{g:TG}{tb:TS}{D:dm}{σ:St}{H:Hp}(Pv:Nat->St->Hp->Prop)(h0:Pv 0 σ H)(hl:∀i σ H,i<=xs.length->Pv i σ H->SqL K H a xs)
  (hs:∀(i:Nat)x σ H p,xs[i]?=some x->H p=none->Pv i σ H->g (.ref p) σ (upd H p (.tup [.int i,x])) fun σ2 H2=>tb {D with nx:=Pv (i+1),ct:=Pv (i+1),bk:=D.nx} σ2 H2) (hd:∀σ H,Pv xs.length σ H->D.nx σ H) :
  ∃W:Nat->Nat->St->Hp->Prop,(∃m,W 0 m σ H)/\∀i m σ H,W i m σ H->
   ((Ite K a).stop i H/\D.nx σ H)\/((Ite K a).go i H/\∃N:St->Hp->Prop,(∀σ' H',N σ' H'->∃m',m'<m/\W (i+1) m' σ' H')/\∀x H',(Ite K a).yld i H x H'->g x σ H' fun σ2 H2=>tb {D with nx:=N,ct:=N,bk:=D.nx} σ2 H2):=by
 refine zn (fun i m σ H=>m=xs.length-i/\i<=xs.length/\Pv i σ H) (zAC xs.length Jo (ce _) h0) ?_;rintro i m σ H ⟨rfl,hi,p⟩;have q:=hl i σ H hi p
 by_cases hlt:i<xs.length
 ·refine .inr ⟨zAD xs (xs[i]) q (by simp [hlt]),zn (Pv (i+1)) (fun σ' H' p'=>zAF (xs.length-(i+1)) Jn rfl hlt p') fun x H' y=>?_⟩;obtain ⟨pp,z,ex,hn,eH,y⟩:=y;subst ex eH;exact hs i z σ H pp (y xs q) hn p
 ·have e:i=xs.length:=by omega
  subst e;exact .inl ⟨zn xs q (zq0 _),hd σ H p⟩
theorem oj{ns:List Int}(h:W.WData.layableAll [W.WData.list (ns.map W.WData.int)]=true):∀n∈ns,Builtin.Int.intBits n<=2 ^ 20:=fun n hn=>by have h1:=(W.layW_cons h).1;have h2:=W.layableW_item h1 (W.WData.int n) (zq21.mpr (zn n hn rfl));exact PyData.bits_of_layable (W.layable0_of_all (W.lay0_int h2))
section
open PySem.W PySem.Calls
theorem A2{l:W.OpenLaw}{n k:Nat}{q:Program}{loose:List Str}{XP:(Str->Option Value)->Heap->Prop}{YP:World->Heap->Prop}{d:DefRec}{K:Params->W.Frag}{CX:World->CXT}{sp:World->Sp}{x:Str}
  (hn:l.most=some n) (hn2:n<=sizeLine) (hdf:d.params.defaults=[]) (hr:Room k callerA)
  (hY:∀(w:World)(h:Heap),YP w h->(K w.params).In h)
  (F:∀(w:World)(mg:Str->Option Value)(fa:Addr)(h:Heap),(K w.params).In h->h.Ns mainGlobals mg->mg d.name=some (.ref fa)->
   ∃fd:FuncData,(∀(s:Shared)(u:Value),BindsTo s fd ⟨[u],[]⟩ [(x,u)])/\
    ∀base:Heap,(K w.params).In base->base.Ns mainGlobals mg->FnOk l.prog w (K w.params) mg base (CX w) k fa fd [x] (sp w))
  (hsp:∀(w:World)(H:Hp)(a:Addr)(ns:List Int),ns.length<=n->(∀z∈ns,Builtin.Int.intBits z<=2 ^ 20)->Dc H->SqL (K w.params) H a (ns.map V.int)->sp w [.ref a] H (fun v _=>v=.bl true) fun _ _ _=>False)
  (hCX:∀(w:World)(H:Hp)(s:Shared)(e:Value)(s':Shared),CX w [] H s (fun _ _ _=>False) e s'->False) :
  W.WalkO q loose XP YP l.row.toRowW d [] (fun f vs=>PySem.call f vs):=by
 intro w s₀ s₁ mg mb G Y fa o pm cd doc dV kV ho hd hcd hD hmg hg args vals as hpre hlay hrd hwl hlo;obtain rfl:dV=.none:=Dflts.none hD hdf;obtain rfl:kV=.none:=Dflts.noKw hD;obtain ⟨a,vs,ns,rfl,rfl,hobj,hints,hlen⟩:=Att.wF hn hpre hwl;have KX:=hY w _ Y;obtain ⟨fd,hb,hF⟩:=F w mg fa _ KX G.T.g hmg;refine enter_call (codeAny_mono (xS KX G.T.g G.T.b G.T.builtins G.T.nolimit hg hobj hints (cR hlen hn2) hr hF hb (fun H hO hS=>hsp w H a ns hlen (oj hlay) hO hS) fun H e s'=>hCX w H s₁ e s') fun r s' hq=>?_);obtain ⟨rfl,h2,h3,h4⟩:=hq;exact zAG (.inl (zAL (.bool true) (.bool true) ([]) rfl (fun _=>rfl) (.bool true) (Att.wk l _) fun _=>⟨List.Pairwise.nil,fun _ hm=>(nomatch hm)⟩)) h2 h3 h4
end
end L2
namespace L2
variable {a p:Addr} {a0 a1 a2 a3 a4 a5 a6 a7 b:Option V} {c i j:Int} {r:St} {ta te:TE} {xs:List V}
section
variable {H:Hp} {Q:VK} {σ:St} {D:dm}
theorem IG{v:V}{Z:St->Hp->Prop}:c6 0 v (b::r) H Z=Z (some v::r) H:=rfl
theorem IH{v:V}{Z:St->Hp->Prop}:c6 1 v (a0::b::r) H Z=Z (a0::some v::r) H:=rfl
theorem II{v:V}{Z:St->Hp->Prop}:c6 2 v (a0::a1::b::r) H Z=Z (a0::a1::some v::r) H:=rfl
theorem IJ{v:V}{Z:St->Hp->Prop}:c6 3 v (a0::a1::a2::b::r) H Z=Z (a0::a1::a2::some v::r) H:=rfl
theorem IK{v:V}{Z:St->Hp->Prop}:c6 4 v (a0::a1::a2::a3::b::r) H Z=Z (a0::a1::a2::a3::some v::r) H:=rfl
theorem IL{v:V}{Z:St->Hp->Prop}:c6 5 v (a0::a1::a2::a3::a4::b::r) H Z=Z (a0::a1::a2::a3::a4::some v::r) H:=rfl
theorem IM{v:V}{Z:St->Hp->Prop}:c6 6 v (a0::a1::a2::a3::a4::a5::b::r) H Z=Z (a0::a1::a2::a3::a4::a5::some v::r) H:=rfl
theorem IN{v:V}{Z:St->Hp->Prop}:c6 7 v (a0::a1::a2::a3::a4::a5::a6::b::r) H Z=Z (a0::a1::a2::a3::a4::a5::a6::some v::r) H:=rfl
theorem IO{v:V}{Z:St->Hp->Prop}:c6 8 v (a0::a1::a2::a3::a4::a5::a6::a7::b::r) H Z=Z (a0::a1::a2::a3::a4::a5::a6::a7::some v::r) H:=rfl
theorem IQ{v:V}{Z:St->Hp->Prop}{a8:Option V}:c6 9 v (a0::a1::a2::a3::a4::a5::a6::a7::a8::b::r) H Z=Z (a0::a1::a2::a3::a4::a5::a6::a7::a8::some v::r) H:=rfl
theorem G0{v:V}{Z:St->Hp->Prop}{a8:Option V}{a9:Option V}:c6 10 v (a0::a1::a2::a3::a4::a5::a6::a7::a8::a9::b::r) H Z=Z (a0::a1::a2::a3::a4::a5::a6::a7::a8::a9::some v::r) H:=rfl
theorem r_c{v:V}:tC v σ H Q=Q v H:=rfl
theorem IU{r:R2}{tb:TE}:tOp r ta tb σ H Q=ta σ H fun x H1=>tb σ H1 fun y H2=>r x y H2 Q:=rfl
theorem IY{r:V->Hp->VK->Prop}:tUn r ta σ H Q=ta σ H fun x H1=>r x H1 Q:=rfl
theorem oA:decide (V.int i=V.int j)=decide (i=j):=by
 by_cases h:i=j
 ·rw [decide_eq_true h,decide_eq_true (congrArg V.int h)]
 ·rw [decide_eq_false h,decide_eq_false fun q=>h (V.int.inj q)]
theorem oB{i j:Str}:decide (V.str i=V.str j)=decide (i=j):=by
 by_cases h:i=j
 ·rw [decide_eq_true h,decide_eq_true (congrArg V.str h)]
 ·rw [decide_eq_false h,decide_eq_false fun q=>h (V.str.inj q)]
theorem FT:rEq (.int i) (.int j) H Q=Q (.bl (decide (i=j))) H:=by show (wD (.int i) (.int j)=true/\Q (.bl (decide (V.int i=V.int j))) H)=_;rw [oA];exact propext ⟨fun h=>h.2,fun h=>⟨rfl,h⟩⟩
theorem FU{i j:Str}:rEq (.str i) (.str j) H Q=Q (.bl (decide (i=j))) H:=by show (wD (.str i) (.str j)=true/\Q (.bl (decide (V.str i=V.str j))) H)=_;rw [oB];exact propext ⟨fun h=>h.2,fun h=>⟨rfl,h⟩⟩
theorem CN:rNe (.int i) (.int j) H Q=Q (.bl (!decide (i=j))) H:=by show (wD (.int i) (.int j)=true/\Q (.bl (!decide (V.int i=V.int j))) H)=_;rw [oA];exact propext ⟨fun h=>h.2,fun h=>⟨rfl,h⟩⟩
theorem Ga{i j:Str}:rNe (.str i) (.str j) H Q=Q (.bl (!decide (i=j))) H:=by show (wD (.str i) (.str j)=true/\Q (.bl (!decide (V.str i=V.str j))) H)=_;rw [oB];exact propext ⟨fun h=>h.2,fun h=>⟨rfl,h⟩⟩
theorem Ej{c:Bool}{Z:Bool->Prop}:(∃k,V.bl c=V.bl k/\Z k)=Z c:=propext ⟨by rintro ⟨_,e,q⟩;cases e;exact q,by intro q;exact zn c rfl q⟩
theorem BP{Z:Int->Prop}:(∃k,V.int c=V.int k/\Z k)=Z c:=propext ⟨by rintro ⟨_,e,q⟩;cases e;exact q,by intro q;exact zn c rfl q⟩
theorem EQ{t:TE}{Z:Bool->Hp->Prop}:D2 t σ H Z=t σ H fun x H'=>∃k,x=.bl k/\Z k H':=rfl
theorem r_B{t:TE}{Z:Bool->Hp->Prop}:tB t σ H Z=t σ H fun x H'=>∃k,x=.bl k/\Z k H':=rfl
theorem FJ{t u:TT}{Z:Bool->Hp->Prop}:Ie t u σ H Z=t σ H fun c H1=>if c=true then u σ H1 Z else Z false H1:=rfl
theorem IV{t u:TT}{Z:Bool->Hp->Prop}:tOr t u σ H Z=t σ H fun c H1=>if c=true then Z true H1 else u σ H1 Z:=rfl
theorem Gc{t:TT}{Z:Bool->Hp->Prop}:Ij t σ H Z=t σ H fun c H1=>Z (!c) H1:=rfl
theorem E5{tb:TE}:CV ta tb σ H Q=ta σ H fun x H1=>∃c,x=.bl c/\if c=true then tb σ H1 Q else Q (.bl false) H1:=rfl
theorem Gd{tb:TE}:Ik ta tb σ H Q=ta σ H fun x H1=>∃c,x=.bl c/\if c=true then Q (.bl true) H1 else tb σ H1 Q:=rfl
theorem EK:D0 ta σ H Q=ta σ H fun x H1=>∃c,x=.bl c/\Q (.bl (!c)) H1:=rfl
theorem IR{t:TT}{tb:TE}:tIf t ta tb σ H Q=t σ H fun c H1=>if c=true then ta σ H1 Q else tb σ H1 Q:=rfl
theorem EJ:CZ D σ H=D.nx σ H:=rfl
theorem ze{t u:TS}:EY t u D σ H=t {D with nx:=u D} σ H:=rfl
theorem Ee:CY te D σ H=te σ H fun _ H1=>D.nx σ H1:=rfl
theorem Ge:zQ te D σ H=te σ H D.rt:=rfl
theorem CM{c:TT}{t u:TS}:EW c t u D σ H=c σ H fun b H1=>if b=true then t D σ H1 else u D σ H1:=rfl
theorem FM{g:TG}:Cd te g D σ H=te σ H fun x H1=>g x σ H1 D.nx:=rfl
theorem ID{r:List V->Hp->VK->Prop}{t:TA}:tCB r t σ H Q=t σ H fun vs H1=>r vs H1 Q:=rfl
theorem Gb{Z:List V->Hp->Prop}:qB σ H Z=Z [] H:=rfl
theorem Ea{tr:TA}{Z:List V->Hp->Prop}:zM ta tr σ H Z=ta σ H fun x H1=>tr σ H1 fun xs H2=>Z (x::xs) H2:=rfl
theorem E9{sp:Sp}{E:XK}{t:TA}:qA sp [] E t σ H Q=t σ H fun vs H1=>sp vs H1 Q E:=by show (t σ H fun vs H1=>sp (vs++[]) H1 Q E)=_;simp only [List.append_nil]
theorem Gi{t:TA}:Il t σ H Q=t σ H fun xs H1=>xs.length<=sizeLine/\∀p,H1 p=none->Q (.ref p) (upd H1 p (.tup xs)):=rfl
theorem G8{t:TA}:Ii t σ H Q=t σ H fun xs H1=>xs.length<=sizeLine/\∀p,H1 p=none->Q (.ref p) (upd H1 p (.lst xs)):=rfl
theorem Eb{td ty:TE}:CW td ty σ H Q=td σ H fun x H1=>ty σ H1 fun y H2=>∃a v,x=.ref a/\DGet H2 a y (some v)/\Q v H2:=rfl
theorem IW{r:V->Option Int->Option Int->Hp->VK->Prop}{tl th:TO}:tSl r te tl th σ H Q=te σ H fun x H1=>tl σ H1 fun l H2=>th σ H2 fun u H3=>r x l u H3 Q:=rfl
theorem yY{Z:Option Int->Hp->Prop}:uQ σ H Z=Z none H:=rfl
theorem EL{Z:Option Int->Hp->Prop}:D1 te σ H Z=te σ H fun x H1=>∃i,x=.int i/\Z (some i) H1:=rfl
theorem El{Z:St->Hp->Prop}:Fg [] σ H Z=Z σ H:=propext ⟨fun h=>h.2,fun h=>⟨rfl,h⟩⟩
theorem BR{t:TG}{u:TGs}{v:V}{r:List V}{Z:St->Hp->Prop}:CC t u (v::r) σ H Z=t v σ H fun σ' H'=>u r σ' H' Z:=propext ⟨by rintro ⟨_,_,e,q⟩;cases e;exact q,by intro q;exact zAD v r rfl q⟩
theorem G4{A B:Prop}:(if false=true then A else B)=B:=if_neg zq6
theorem IT:(!true)=false:=rfl
theorem IS:(!false)=true:=rfl
theorem Ey:(([]:List V).length<=sizeLine)=True:=eq_true (by show 0<=sizeLine;decide)
theorem Ez{a0:V}:(([a0]:List V).length<=sizeLine)=True:=eq_true (by show 1<=sizeLine;decide)
theorem EA{a0 a1:V}:(([a0,a1]:List V).length<=sizeLine)=True:=eq_true (by show 2<=sizeLine;decide)
theorem EB{a0 a1 a2:V}:(([a0,a1,a2]:List V).length<=sizeLine)=True:=eq_true (by show 3<=sizeLine;decide)
theorem EC{a0 a1 a2 a3:V}:(([a0,a1,a2,a3]:List V).length<=sizeLine)=True:=eq_true (by show 4<=sizeLine;decide)
theorem ED{a0 a1 a2 a3 a4 a5 a6:V}:(([a0,a1,a2,a3,a4,a5,a6]:List V).length<=sizeLine)=True:=eq_true (by show 7<=sizeLine;decide)
theorem EE{a0 a1 a2 a3 a4 a5 a6 a7:V}:(([a0,a1,a2,a3,a4,a5,a6,a7]:List V).length<=sizeLine)=True:=eq_true (by show 8<=sizeLine;decide)
end
def mw(J:It)(g:TG)(tb:TS)(D:dm)(σ:St)(H1:Hp):Prop:=∃W:Nat->Nat->St->Hp->Prop,(∃m,W 0 m σ H1)/\∀i m σ H,W i m σ H->
 (J.stop i H/\D.nx σ H)\/(J.go i H/\∃N:St->Hp->Prop,(∀σ' H',N σ' H'->∃m',m'<m/\W (i+1) m' σ' H')/\∀x H',J.yld i H x H'->g x σ H' fun σ2 H2=>tb {D with nx:=N,ct:=N,bk:=D.nx} σ2 H2)
section
variable {g:TG} {tb:TS} {D:dm} {σ:St} {H:Hp}
theorem FY{wi:TI}:EV wi g tb D σ H=wi σ H fun J H1=>mw J g tb D σ H1:=rfl
theorem BS{K:W.Frag}{ta:TA}{R:It->Hp->Prop}:xJ K ta σ H R=ta σ H fun vs H1=>∃a,vs=[.ref a]/\(∃xs,SqL K H1 a xs)/\R (Ite K a) H1:=rfl
theorem BV{K:W.Frag}{tl:TE}{R:It->Hp->Prop}:CF K tl σ H R=tl σ H fun x H1=>∃a,x=.ref a/\(∃xs,SqL K H1 a xs)/\R (Itl K a) H1:=rfl
theorem Er{K:W.Frag}{tl:TE}{R:It->Hp->Prop}:Fi K tl σ H R=tl σ H fun x H1=>∃a,x=.ref a/\(∃xs,SqT K H1 a xs)/\R (Itt K a) H1:=rfl
theorem BW{ta:TA}{R:It->Hp->Prop}:CG ta σ H R=ta σ H fun vs H1=>∃j:Int,vs=[.int j]/\-(2 ^ 62)<=j/\j<2 ^ 62/\R (Itr 0 j.toNat) H1:=rfl
theorem BX{ta:TA}{R:It->Hp->Prop}:xK ta σ H R=ta σ H fun vs H1=>∃i j:Int,vs=[.int i,.int j]/\(-(2 ^ 62)<=i/\i<2 ^ 62/\-(2 ^ 62)<=j/\j<2 ^ 62)/\R (Itr i (j-i).toNat) H1:=rfl
theorem Ef{Z:Int->Prop}:(∃k,[V.int c]=[V.int k]/\Z k)=Z c:=propext ⟨by rintro ⟨_,e,q⟩;cases e;exact q,by intro q;exact zn c rfl q⟩
theorem Eg{d:Int}{Z:Int->Int->Prop}:(∃k l,[V.int c,V.int d]=[V.int k,V.int l]/\Z k l)=Z c d:=propext ⟨by rintro ⟨_,_,e,q⟩;cases e;exact q,by intro q;exact zAD c d rfl q⟩
theorem FV{c:Addr}{Z:Addr->Prop}:(∃k,V.ref c=V.ref k/\Z k)=Z c:=propext ⟨by rintro ⟨_,e,q⟩;cases e;exact q,by intro q;exact zn c rfl q⟩
theorem oN{lo:Int}{n:Nat}(Pv:Nat->St->Hp->Prop)(h0:Pv 0 σ H)
 (hs:∀(i:Nat)σ H,i<n->Pv i σ H->g (.int (lo+i)) σ H fun σ2 H2=>tb {D with nx:=Pv (i+1),ct:=Pv (i+1),bk:=D.nx} σ2 H2) (hd:∀σ H,Pv n σ H->D.nx σ H):mw (Itr lo n) g tb D σ H:=vx Pv h0 hs hd
theorem eT{n:Nat}(Pv:Nat->St->Hp->Prop)(h0:Pv 0 σ H)
 (hs:∀(i:Nat)σ H,i<n->Pv i σ H->g (.int (i:Int)) σ H fun σ2 H2=>tb {D with nx:=Pv (i+1),ct:=Pv (i+1),bk:=D.nx} σ2 H2) (hd:∀σ H,Pv n σ H->D.nx σ H):mw (Itr 0 n) g tb D σ H:=
 oN Pv h0 (fun i σ H hi p=>by rw [Ak];exact hs i σ H hi p) hd
theorem B7{K:W.Frag}(Pv:Nat->St->Hp->Prop)(h0:Pv 0 σ H)(hl:∀i σ H,i<=xs.length->Pv i σ H->SqL K H a xs)
 (hs:∀(i:Nat)x σ H p,xs[i]?=some x->H p=none->Pv i σ H->g (.ref p) σ (upd H p (.tup [.int i,x])) fun σ2 H2=>tb {D with nx:=Pv (i+1),ct:=Pv (i+1),bk:=D.nx} σ2 H2) (hd:∀σ H,Pv xs.length σ H->D.nx σ H):mw (Ite K a) g tb D σ H:=xA Pv h0 hl hs hd
theorem cA{K:W.Frag}(Pv:Nat->St->Hp->Prop)(h0:Pv 0 σ H)(hl:∀i σ H,i<=xs.length->Pv i σ H->SqL K H a xs)
 (hs:∀(i:Nat)x σ H,xs[i]?=some x->Pv i σ H->g x σ H fun σ2 H2=>tb {D with nx:=Pv (i+1),ct:=Pv (i+1),bk:=D.nx} σ2 H2) (hd:∀σ H,Pv xs.length σ H->D.nx σ H):mw (Itl K a) g tb D σ H:=xB Pv h0 hl hs hd
theorem Same.upd{H:Hp}{o:HO}(h:H p=none):Same H (upd H p o):=fun b u e=>by rw [aq (ao e h)];exact e
theorem Same.seqT{K:W.Frag}{H H':Hp}(e:Same H H')(h:SqT K H a xs):SqT K H' a xs:=by
 rcases h with (h | ⟨o,h⟩) | h
 ·exact .inl (.inl (e _ _ h))
 ·exact .inl (.inr ⟨o,e _ _ h⟩)
 ·exact .inr h
end
section
variable {H:Hp} {Q:VK} {σ:St} {D:dm} {K:W.Frag}
theorem IF{T:String}{r:V->List V->Hp->VK->Prop}{to:TE}{t:TA}:tBM K T r to t σ H Q=to σ H fun x H1=>tyV K T x H1/\t σ H1 fun xs H2=>r x xs H2 Q:=rfl
theorem FN{T:String}{r:V->List V->Hp->VK->Prop}{to:TE}:Ig K T r to σ H Q=to σ H fun x H1=>tyV K T x H1/\r x [] H1 Q:=rfl
theorem G6{z:Str}:Fz (.str z) (.int i) H Q=(z.length<=sizeLine/\∃c,atI z.cps.toList i=some c/\Q (.str ⟨#[c]⟩) H):=propext ⟨by rintro ⟨_,_,c,e1,e2,h1,h2,q⟩;cases e1;cases e2;exact ⟨h1,zn c h2 q⟩,by rintro ⟨h1,c,h2,q⟩;exact zAL _ _ c rfl rfl h1 h2 q⟩
theorem G5:E3 K (.ref p) (.int i) H Q=∃xs v,SqL K H p xs/\atI xs i=some v/\Q v H:=propext ⟨by rintro ⟨_,xs,_,v,e1,e2,h1,h2,q⟩;cases e1;cases e2;exact zAA xs v h1 h2 q,by rintro ⟨xs,v,h1,h2,q⟩;exact zAN _ xs _ v rfl rfl h1 h2 q⟩
theorem G7:E4 K (.ref p) (.int i) H Q=∃xs v,SqT K H p xs/\atI xs i=some v/\Q v H:=propext ⟨by rintro ⟨_,xs,_,v,e1,e2,h1,h2,q⟩;cases e1;cases e2;exact zAA xs v h1 h2 q,by rintro ⟨xs,v,h1,h2,q⟩;exact zAN _ xs _ v rfl rfl h1 h2 q⟩
theorem FQ{b:Addr}:Fy (.ref a) (.ref b) H Q=∃xs zs,H a=some (.lst xs)/\H b=some (.lst zs)/\xs.length+zs.length<=sizeLine/\∀p,H p=none->Q (.ref p) (upd H p (.lst (xs++zs))):=propext ⟨by rintro ⟨_,_,xs,zs,e1,e2,h⟩;cases e1;cases e2;exact zAM xs zs h,by rintro ⟨xs,zs,h⟩;exact zBJ _ _ xs zs (zAB rfl rfl h)⟩
theorem Gg{lo hi:Option Int}:FH K (.ref a) lo hi H Q=∃xs,SqL K H a xs/\∀p,H p=none->Q (.ref p) (upd H p (.lst (eJ xs lo hi))):=propext ⟨by rintro ⟨_,xs,e1,h⟩;cases e1;exact ⟨xs,h⟩,by rintro ⟨xs,h⟩;exact zAD _ xs rfl h⟩
theorem yN{y:V}:ua (.ref a) [y] H Q=∃xs,H a=some (.lst xs)/\xs.length<sizeLine/\Q .non (upd H a (.lst (xs++[y]))):=propext ⟨by rintro ⟨_,xs,_,e1,e2,h⟩;cases e1;cases e2;exact ⟨xs,h⟩,by rintro ⟨xs,h⟩;exact zAO _ xs _ rfl rfl h⟩
theorem Eh{Z:Addr->List V->Prop}:(∃p ys,[V.ref a]=[V.ref p]/\Z p ys)=∃ys,Z a ys:=propext ⟨by rintro ⟨_,ys,e1,q⟩;cases e1;exact ⟨ys,q⟩,by rintro ⟨ys,q⟩;exact zAD a ys rfl q⟩
theorem Ew{c:Bool}{Z:Int->Prop}{Y:Bool->Prop}:((∃i,[V.bl c]=[V.int i]/\Z i)\/∃k,[V.bl c]=[V.bl k]/\Y k)=Y c:=propext ⟨fun h=>(by rcases h with ⟨_,e,q⟩ | ⟨_,e,q⟩<;>cases e<;>exact q),fun q=>Or.inr (zn c rfl q)⟩
theorem En{n:Nat}{t:TGs}{Z:St->Hp->Prop}:Fh K n t (.ref a) σ H Z=∃xs,SqT K H a xs/\xs.length=n/\t xs σ H Z:=propext ⟨by rintro ⟨_,xs,e,h⟩;cases e;exact ⟨xs,h⟩,by rintro ⟨xs,h⟩;exact zAD a xs rfl h⟩
end
end L2
namespace L2
section
variable {prog:Program} {w:World} {A:Around} {R:Result->Shared->Prop} {s:Shared}
end
end L2
namespace L2
inductive Dq (K:W.Frag) (H:Hp):Nat->V->V->Bool->Prop where
 |flat {n:Nat} {x y:V} (fx:bH x=true) (fy:bH y=true):Dq K H n x y (eqV x y)
 |same {n:Nat} {a:Addr}:Dq K H n (.ref a) (.ref a) true
 |lists {n:Nat} {a b:Addr} {xs ys:List V} (e:Nat->Bool) (ne:a≠b) (ha:SqL K H a xs) (hb:SqL K H b ys) (hl:xs.length=ys.length)
   (he:∀(j:Nat)x y,xs[j]?=some x->ys[j]?=some y->Dq K H n x y (e j)):Dq K H (n+1) (.ref a) (.ref b) ((List.range xs.length).all e)
 |lens {n:Nat} {a b:Addr} {xs ys:List V} (ne:a≠b) (ha:SqL K H a xs) (hb:SqL K H b ys) (hl:¬xs.length=ys.length):Dq K H (n+1) (.ref a) (.ref b) false
 |tups {n:Nat} {a b:Addr} {xs ys:List V} (e:Nat->Bool) (ne:a≠b) (ha:SqT K H a xs) (hb:SqT K H b ys)
   (he:∀(j:Nat)x y,xs[j]?=some x->ys[j]?=some y->Dq K H n x y (e j)):Dq K H (n+1) (.ref a) (.ref b) ((List.range (min xs.length ys.length)).all e&&xs.length==ys.length)
section
variable {X:Cx} {pins:List (Addr×Obj)} {σ:St} {H:Hp} {s:Shared}
theorem fO{xs:List V}{its:List Value}(r:Vals xs its){j:Nat}(h:j<its.toArray.size):∃x,xs[j]?=some x/\RelV x its.toArray[j]:=by
 have hl:=r.length;have hj:j<xs.length:=by simpa [hl] using h
 obtain ⟨u,hu,ru⟩:=r.get (zq8 hj);have e:its.toArray[j]=u:=by
  have h2:its[j]?=some u:=hu;have h3:j<its.length:=by simpa using h
  rw [zq8 h3] at h2;simpa using h2
 exact zn (xs[j]) (zq8 hj) (by rw [e];exact ru)
theorem Dq.at(I:Inv X pins σ H s){n:Nat}{x y:V}{b:Bool}(d:Dq X.K H n x y b):∀{A:Around} {v u:Value},RelV x v->RelV y u->A.units+n<cLine->SeqAt.EqAt A s v u b:=by
 induction d with
 |flat fx fy=>intro A v u rv ru _;exact rc rv ru fx fy
 |same=>intro A v u rv ru _;cases rv;cases ru;exact SeqAt.EqAt.same _
 | @lists n a b xs ys e ne ha hb hl he ih=>
  intro A v u rv ru hu
  cases rv;cases ru
  obtain ⟨its,r,p,_⟩:=I.list ha;obtain ⟨its2,r2,p2,_⟩:=I.list hb;have e1:=r.length;have e2:=r2.length;have z:=SeqAt.RcAt.lists (A:=A) (e:=e) p.isList p2.isList (by simp;omega) Jn fun j h1 h2=>by obtain ⟨x,hx,rx⟩:=fO r h1;obtain ⟨y,hy,ry⟩:=fO r2 h2;exact ih j x y hx hy rx ry (by show A.units+1+n<cLine;omega)
  have e3:its.toArray.size=xs.length:=by simp [e1]
  rw [e3] at z;exact SeqAt.EqAt.of_refs ne z
 | @lens n a b xs ys ne ha hb hl=>
  intro A v u rv ru hu
  cases rv;cases ru
  obtain ⟨its,r,p,_⟩:=I.list ha;obtain ⟨its2,r2,p2,_⟩:=I.list hb;have e1:=r.length;have e2:=r2.length;exact SeqAt.EqAt.of_refs ne (SeqAt.RcAt.lists_lengths (A:=A) p.isList p2.isList (by simp;omega) Jn)
 | @tups n a b xs ys e ne ha hb he ih=>
  intro A v u rv ru hu
  cases rv;cases ru
  obtain ⟨its,r,p,_⟩:=I.tuple ha;obtain ⟨its2,r2,p2,_⟩:=I.tuple hb;have e1:=r.length;have e2:=r2.length;have z:=SeqAt.RcAt.tuples (A:=A) (e:=e) (show s.heap.IsTuple a its.toArray from p) (show s.heap.IsTuple b its2.toArray from p2) Jn fun j h1 h2=>by obtain ⟨x,hx,rx⟩:=fO r h1;obtain ⟨y,hy,ry⟩:=fO r2 h2;exact ih j x y hx hy rx ry (by show A.units+1+n<cLine;omega)
  have e3:its.toArray.size=xs.length:=by simp [e1]
  have e4:its2.toArray.size=ys.length:=by simp [e2]
  rw [e3,e4] at z;exact SeqAt.EqAt.of_refs ne z
end
inductive Rq (K:W.Frag) (H:Hp) (n:Nat):V->V->Bool->Prop where
 |lists {a b:Addr} {xs ys:List V} (e:Nat->Bool) (ha:SqL K H a xs) (hb:SqL K H b ys) (hl:xs.length=ys.length)
   (he:∀(j:Nat)x y,xs[j]?=some x->ys[j]?=some y->Dq K H n x y (e j)):Rq K H n (.ref a) (.ref b) ((List.range xs.length).all e)
 |lens {a b:Addr} {xs ys:List V} (ha:SqL K H a xs) (hb:SqL K H b ys) (hl:¬xs.length=ys.length):Rq K H n (.ref a) (.ref b) false
 |tups {a b:Addr} {xs ys:List V} (e:Nat->Bool) (ha:SqT K H a xs) (hb:SqT K H b ys)
   (he:∀(j:Nat)x y,xs[j]?=some x->ys[j]?=some y->Dq K H n x y (e j)):Rq K H n (.ref a) (.ref b) ((List.range (min xs.length ys.length)).all e&&xs.length==ys.length)
def IA(K:W.Frag)(n:Nat):R2:=fun x y H Q=>∃b,Rq K H n x y b/\Q (.bl b) H
def IB(K:W.Frag)(n:Nat):R2:=fun x y H Q=>∃b,Rq K H n x y b/\Q (.bl (!b)) H
section
variable {X:Cx}
theorem mV{n:Nat}(hu:X.A.units+(n+1)<cLine):OpR X (compareOp .Eq) (IA X.K n):=by
 intro pins s σ H x y v u Q I rx ry h;obtain ⟨b,d,q⟩:=h
 cases d with
 | @lists a c xs ys e ha hb hl he=>
  cases rx;cases ry
  obtain ⟨its,r,p,_⟩:=I.list ha;obtain ⟨its2,r2,p2,_⟩:=I.list hb;have e1:=r.length;have e2:=r2.length;have e3:its.toArray.size=xs.length:=by simp [e1]
  refine SeqAt.eq_listAt (e:=e) p.isList p2.isList (by simp;omega) Jn (fun j h1 h2=>?_) (zAA (.bl _) H I rfl (by rw [e3];exact q));obtain ⟨x,hx,rx⟩:=fO r h1;obtain ⟨y,hy,ry⟩:=fO r2 h2;exact (he j x y hx hy).at I rx ry (by show X.A.units+1+n<cLine;omega)
 | @lens a c xs ys ha hb hl=>
  cases rx;cases ry
  obtain ⟨its,r,p,_⟩:=I.list ha;obtain ⟨its2,r2,p2,_⟩:=I.list hb;have e1:=r.length;have e2:=r2.length;exact SeqAt.eq_list_lengthsAt p.isList p2.isList (by simp;omega) Jn (zAA (.bl _) H I rfl q)
 | @tups a c xs ys e ha hb he=>
  cases rx;cases ry
  obtain ⟨its,r,p,_⟩:=I.tuple ha;obtain ⟨its2,r2,p2,_⟩:=I.tuple hb;have e1:=r.length;have e2:=r2.length;have e3:its.toArray.size=xs.length:=by simp [e1]
  have e4:its2.toArray.size=ys.length:=by simp [e2]
  refine SeqAt.eq_tupleAt (e:=e) (show s.heap.IsTuple a its.toArray from p) (show s.heap.IsTuple c its2.toArray from p2) Jn (fun j h1 h2=>?_) (zAA (.bl _) H I rfl (by rw [e3,e4];exact q));obtain ⟨x,hx,rx⟩:=fO r h1;obtain ⟨y,hy,ry⟩:=fO r2 h2;exact (he j x y hx hy).at I rx ry (by show X.A.units+1+n<cLine;omega)
theorem yu{n:Nat}(hu:X.A.units+(n+1)<cLine):OpR X (compareOp .NotEq) (IB X.K n):=by
 intro pins s σ H x y v u Q I rx ry h;obtain ⟨b,d,q⟩:=h
 cases d with
 | @lists a c xs ys e ha hb hl he=>
  cases rx;cases ry
  obtain ⟨its,r,p,_⟩:=I.list ha;obtain ⟨its2,r2,p2,_⟩:=I.list hb;have e1:=r.length;have e2:=r2.length;have e3:its.toArray.size=xs.length:=by simp [e1]
  refine SeqAt.RcNeAt.lists (A:=X.A) (e:=e) p.isList p2.isList (by simp;omega) Jn (fun j h1 h2=>?_) X.prog X.w X.xe _ (zAA (.bl _) H I rfl (by rw [e3];exact q));obtain ⟨x,hx,rx⟩:=fO r h1;obtain ⟨y,hy,ry⟩:=fO r2 h2;exact (he j x y hx hy).at I rx ry (by show X.A.units+1+n<cLine;omega)
 | @lens a c xs ys ha hb hl=>
  cases rx;cases ry
  obtain ⟨its,r,p,_⟩:=I.list ha;obtain ⟨its2,r2,p2,_⟩:=I.list hb;have e1:=r.length;have e2:=r2.length;exact SeqAt.RcNeAt.lists_lengths (A:=X.A) p.isList p2.isList (by simp;omega) Jn X.prog X.w X.xe _ (zAA (.bl _) H I rfl q)
 | @tups a c xs ys e ha hb he=>
  cases rx;cases ry
  obtain ⟨its,r,p,_⟩:=I.tuple ha;obtain ⟨its2,r2,p2,_⟩:=I.tuple hb;have e1:=r.length;have e2:=r2.length;have e3:its.toArray.size=xs.length:=by simp [e1]
  have e4:its2.toArray.size=ys.length:=by simp [e2]
  refine SeqAt.RcNeAt.tuples (A:=X.A) (e:=e) (show s.heap.IsTuple a its.toArray from p) (show s.heap.IsTuple c its2.toArray from p2) Jn (fun j h1 h2=>?_) X.prog X.w X.xe _ (zAA (.bl _) H I rfl (by rw [e3,e4];exact q));obtain ⟨x,hx,rx⟩:=fO r h1;obtain ⟨y,hy,ry⟩:=fO r2 h2;exact (he j x y hx hy).at I rx ry (by show X.A.units+1+n<cLine;omega)
end
theorem oJ{x:V}(h:bH x=true):eqV x x=true:=by cases x<;>first | rfl | (exact absurd h zq6) | (simp [eqV])
theorem xc(n:Nat):(List.range n).all (fun _=>true)=true:=by simp
theorem Rq.listSelf{K:W.Frag}{H:Hp}{n:Nat}{a b:Addr}{xs:List V}(ha:SqL K H a xs)(hb:SqL K H b xs)(hf:xs.all bH=true):Rq K H n (.ref a) (.ref b) true:=by
 have h:=Rq.lists (n:=n) (fun _=>true) ha hb rfl fun j x y hx hy=>by rw [hx] at hy;cases hy;have f:=zq37.mp hf x (zq4 hx);rw [<- oJ f];exact Dq.flat f f
 rw [xc] at h;exact h
end L2
namespace L2
def d7(cells:List (Str×Addr)):List (Str×NameKind)->List (Str×Addr)->List (Str×Addr)
 | [],acc=>acc
 | (n,k)::r,acc=>if k==.free then d7 cells r ((n,(cells.lookup n).getD 0)::acc) else d7 cells r acc
theorem eI{scope:Scope}{env:Env}(h:∀y∈scope.names,y.2=.free->∃c,env.cells.lookup y.1=some c):closureFor scope env=pure (d7 env.cells scope.names []):=by
 have key:∀(names:List (Str×NameKind)) (acc:List (Str×Addr)),(∀y∈names,y.2=.free->∃c,env.cells.lookup y.1=some c)->
   (forIn names acc fun x (r:List (Str×Addr))=>match x with
    | (name,kind)=>if (kind==.free)=true then do let c <- cellOf env name;pure (ForInStep.yield ((name,c)::r)) else pure (ForInStep.yield r))=(pure (d7 env.cells names acc):Sem (List (Str×Addr))):=by
  intro names
  induction names with
  |nil=>intro acc _;rfl
  |cons y r ih=>
   intro acc hy;obtain ⟨n,k⟩:=y;rw [List.forIn_cons]
   cases hk:(k==NameKind.free) with
   |true=>
    have hk':k=.free:=by simpa using hk
    obtain ⟨c,hc⟩:=hy (n,k) eL hk';have e:cellOf env n=pure c:=by unfold cellOf;rw [show env.cells.lookup n=some c from hc]
    simp only [hk,if_true,e,pure_bind];rw [ih _ fun z hz=>hy z (zq9 _ hz)];simp only [d7,hk,if_true];rw [show env.cells.lookup n=some c from hc];rfl
   |false=>simp only [hk,Bool.false_eq_true,if_false,pure_bind];rw [ih _ fun z hz=>hy z (zq9 _ hz)];simp only [d7,hk,Bool.false_eq_true,if_false]
 refine (show closureFor scope env=((forIn scope.names [] fun x (r:List (Str×Addr))=>match x with
    | (name,kind)=>if (kind==.free)=true then do let c <- cellOf env name;pure (ForInStep.yield ((name,c)::r)) else pure (ForInStep.yield r)) >>= fun cs=>pure cs) from rfl).trans ?_
 rw [key scope.names [] h];rfl
theorem ie{cells:List (Str×Addr)}:∀{names:List (Str×NameKind)} {acc:List (Str×Addr)},(∀y∈names,y.2=.free->∃c,cells.lookup y.1=some c)->(∀y c,acc.lookup y=some c->cells.lookup y=some c)->
  ∀y c,(d7 cells names acc).lookup y=some c->cells.lookup y=some c
 | [],_,_,ha=>ha
 | (n,k)::r,acc,hn,ha=>by
  intro y c;unfold d7
  split
  ·next hk=>
   refine ie (fun z hz=>hn z (zq9 _ hz)) (fun z d hz=>?_) y c;obtain ⟨e,he⟩:=hn (n,k) eL (by simpa using hk);rw [qO] at hz
   split at hz
   ·next hq=>
    have:z=n:=by simpa using hq
    subst this;have he':cells.lookup z=some e:=he;rw [he'] at hz ⊢;exact hz
   ·exact ha z d hz
  ·exact ie (fun z hz=>hn z (zq9 _ hz)) ha y c
theorem jS{cells:List (Str×Addr)}{y:Str}:∀{names:List (Str×NameKind)} {acc:List (Str×Addr)},(∃c,acc.lookup y=some c)->∃c,(d7 cells names acc).lookup y=some c
 | [],_,h=>h
 | (n,k)::r,acc,h=>by
  unfold d7
  split
  ·refine jS ?_;rw [qO]
   split
   ·exact ⟨_,rfl⟩
   ·exact h
  ·exact jS h
theorem dY{cells:List (Str×Addr)}{y:Str}:∀{names:List (Str×NameKind)} {acc:List (Str×Addr)},(y,NameKind.free)∈names->∃c,(d7 cells names acc).lookup y=some c
 | (n,k)::r,acc,h=>by
  unfold d7;rcases zq5.mp h with e | e
  ·cases e
   rw [if_pos Jp];exact jS ⟨(cells.lookup y).getD 0,by rw [qO,beq_self_eq_true]⟩
  ·split
   ·exact dY e
   ·exact dY e
structure Bk where
 C:Addr
 fp:List Addr
 s₂:Shared
 H₂:Hp
def Cx.blk(X:Cx)(N':List Str)(scope:Scope)(b:Bk):Cx:=
 {prog:=X.prog,w:=X.w,K:=X.K,mg:=X.mg,base:=X.base,A:=X.A,N:=N',s₀:=b.s₂,H₀:=b.H₂,env:=compEnvC scope (d7 X.env.cells scope.names []) b.C X.env,outer:=X.stack,stack:=X.stack,ex:=b.fp,fn:=fun _=>false,calm:=X.calm,pn:=[],xe:=fun _ _=>False}
def aM(os:List (Option V))(ci:List Nat)(σ:St):St:=none::(os++ci.map fun i=>(σ[i]?).join)
def ck(J:It)(g:TG)(tt:TT)(te:TE)(nt:Nat)(ci:List Nat)(σ:St)(acc:Addr)(Q:Hp->Prop)(H0:Hp):Prop:=∃W:Nat->Nat->List V->Hp->Prop,(∃m,W 0 m [] H0)/\∀i m ys H,W i m ys H->
 (J.stop i H/\Q H)\/(J.go i H/\∃N:List V->Hp->Prop,(∀zs H',N zs H'->∃m',m'<m/\W (i+1) m' zs H')/\∀y H' os,os.length=nt->J.yld i H y H'->g y (aM os ci σ) H' fun σ1 H1=>(∃os',os'.length=nt/\σ1=aM os' ci σ)/\tt σ1 H1 fun b H2=>if b=true then te σ1 H2 fun z H3=>H3 acc=some (.lst ys)/\ys.length<sizeLine/\N (ys++[z]) (upd H3 acc (.lst (ys++[z]))) else N ys H2)
def kJ(wi:TI)(g:Bk->TG)(tt:Bk->TT)(te:Bk->TE)(nt:Nat)(ci:List Nat):TE:=fun σ H Q=>wi σ H fun J H1=>∀acc,H1 acc=none->∀bk:Bk,ck J (g bk) (tt bk) (te bk) nt ci σ acc (fun H'=>Q (.ref acc) H') (upd H1 acc (.lst []))
def vh(X:Cx)(ifs:List Expr)(t:TT):Prop:=
 ∀(pins:List (Addr×Obj)) (s:Shared) (σ:St) (H:Hp) (Q:Bool->Hp->Prop),Inv X pins σ H s->t σ H Q->
  wpAny (model X.prog X.w) X.A (forIn ifs true fun c r=>if r=true then do let ok <- isTrue c X.env (eval c X.env);pure (ForInStep.yield ok) else pure (ForInStep.yield r)) (TP X pins σ Q) X.xe s
def j1:TT:=fun _ H Q=>Q true H
structure CompSc(X:Cx)(scope:Scope)(cns:List Str)(ci:List Nat):Prop where
 kind:scope.kind=.function
 cell:∀y∈scope.names,y.2≠.cell
 names:∀y∈scope.names,y.2=.local->scope.names.lookup y.1=some .local
 free:∀y∈scope.names,y.2=.free->X.env.kindOf y.1=some .cell\/X.env.kindOf y.1=some .free
 cap:∀(j:Nat)x,cns[j]?=some x->∃i,ci[j]?=some i/\X.N[i]?=some x/\(x,NameKind.free)∈scope.names
 len:cns.length=ci.length
 noloc:∀y,(y,NameKind.free)∈scope.names->¬(relabel scope X.env).names.lookup y=some .local
theorem dP{env:Env}:∀{names:List (Str×NameKind)} {y:Str} {k:NameKind},(names.map fun (n,k)=>if (k==NameKind.free&&env.scope.kind==.function&&env.kindOf n==some .cell) then (n,NameKind.cell) else (n,k)).lookup y=some k->k=.cell\/k=.free->
  (∀z∈names,z.2≠.cell)->(y,NameKind.free)∈names
 | [],_,_,h,_,_=>by simp at h
 | (n,k0)::r,y,k,h,hk,hc=>by
  rw [dh,qO] at h
  by_cases hf:(k0==NameKind.free&&env.scope.kind==.function&&env.kindOf n==some .cell)=true
  ·simp only [hf,if_true] at h;have k0f:k0=.free:=by have:=hf;simp only [Bool.and_eq_true] at this;simpa using this.1.1
   split at h
   ·next hq=>
    have:y=n:=by simpa using hq
    subst this;subst k0f;exact eL
   ·exact zq9 _ (dP h hk fun z hz=>hc z (zq9 _ hz))
  ·simp only [hf] at h
   split at h
   ·next hq=>
    have:y=n:=by simpa using hq
    subst this;have e:k0=k:=by simpa using h
    subst e;rcases hk with z | z
    ·exact absurd z (hc _ eL)
    ·subst z;exact eL
   ·exact zq9 _ (dP h hk fun z hz=>hc z (zq9 _ hz))
section
variable {prog:Program} {w:World} {A:Around} {R:Result->Shared->Prop} {s:Shared}
theorem ig{elt target iter:Expr}{ifs:List Expr}{scope:Scope}{pos:Pos}{it acc:Value}{env:Env}(I:Nat->Shared->Prop)
  (turn:∀n s,I n s->wpAny (model prog w) A (pyNext it) (fun r s₁=>match r with
   |none=>R (.ok .next) s₁
   |some v=>wpAny (model prog w) A (letOwnedTupleGo target it v) (fun _ s₅=>wpAny (model prog w) A (assign target env v) (fun _ s₂=>
     wpAny (model prog w) A (forIn ifs true fun c r=>if r=true then do let ok <- isTrue c env (eval c env);pure (ForInStep.yield ok) else pure (ForInStep.yield r)) (fun ok s₃=>
      if ok=true then wpAny (model prog w) A (eval elt env) (fun x s₄=>wpAny (model prog w) A (call (.builtin "list.append") [acc,x]) (fun _ s₅=>∃m,m<n/\I m s₅) (fun _ _=>False) s₄) (fun _ _=>False) s₃
      else ∃m,m<n/\I m s₃) (fun _ _=>False) s₂) (fun _ _=>False) s₅) (fun _ _=>False) s₁) (fun _ _=>False) s)
  (n:Nat) (h:I n s) :
  codeAny (model prog w) A (.compLoop (.ListComp elt [⟨target,iter,ifs,0⟩] scope pos) 0 it acc env) R s:=by
 refine codeAny_loop rfl I (fun n s hI=>?_) n h;show wpAny _ _ ((compTurn (.ListComp elt [⟨target,iter,ifs,0⟩] scope pos) 0 it acc env).onRaise (fun x=>do noteFrame x env;theTreesLotGoes x)) _ _ s;refine wpAny_noted ?_;rw [compTurn_list];refine wpAny_bind (wpAny_standAt (wpAny_bind (wpAny_mono (turn n s hI) (fun r s₁ h₁=>?_) fun _ _ h'=>h'.elim)))
 cases r with
 |none=>exact wpAny_pure h₁
 |some v=>
  refine wpAny_bind (wpAny_mono h₁ (fun _ s₅ h₅=>?_) fun _ _ h'=>h'.elim);refine wpAny_bind (wpAny_mono h₅ (fun _ s₂ h₂=>wpAny_bind (wpAny_mono h₂ (fun ok s₃ h₃=>?_) fun _ _ h'=>h'.elim)) fun _ _ h'=>h'.elim)
  cases ok with
  |true=>
   rw [if_pos rfl] at h₃;exact wpAny_bind (wpAny_bind (wpAny_mono h₃ (fun x s₃ h₃=>wpAny_bind (wpAny_mono h₃ (fun _ s₄ h₄=>wpAny_pure (wpAny_pure ⟨rfl,h₄⟩)) fun _ _ h'=>h'.elim)) fun _ _ h'=>h'.elim))
  |false=>rw [if_neg zq6] at h₃;exact wpAny_bind (wpAny_pure (wpAny_pure ⟨rfl,h₃⟩))
end
theorem lO{X:Cx}{elt iter tgt:Expr}{ifs:List Expr}{pos:Pos}{scope:Scope}{g:Bk->TG}{tt:Bk->TT}{te:Bk->TE}{tns cns:List Str}{ci:List Nat}{RR:Value->Addr->Result->Shared->Prop}{E:Value->Shared->Prop}
  {pins:List (Addr×Obj)} {σ:St} {H2:Hp} {s2:Shared} {it:Addr} {fp:List Addr} {tn:Nat->Heap->Prop} {J:It} {Q:Addr->Hp->Prop}
  (hc:X.calm=true) (S:CompSc X scope cns ci)
  (hg:∀bk:Bk,PG (X.blk (".0"::(tns++cns)) scope bk) tgt (g bk))
  (ht:∀bk:Bk,vh (X.blk (".0"::(tns++cns)) scope bk) ifs (tt bk))
  (he:∀bk:Bk,PE (X.blk (".0"::(tns++cns)) scope bk) elt (te bk))
  (I2:Inv X pins σ H2 s2) (T:jJ X.prog X.w X.K tgt J fp it tn) (st2:tn 0 s2.heap) (f2:∀b∈fp,jl X pins H2 b)
  (hcw:∀acc,H2 acc=none->∀bk:Bk,ck J (g bk) (tt bk) (te bk) tns.length ci σ acc (Q acc) (upd H2 acc (.lst [])))
  (fin:∀D C s5 H4 m,Inv X pins σ H4 s5->s5.heap.Ns C m->jl X pins H4 C->Q D H4->RR (.ref D) C (.ok .next) s5) :
  wpAny (model X.prog X.w) X.A (newList []) (fun acc s₃=>wpAny (model X.prog X.w) X.A (newFunctionEnv scope X.env.globals (d7 X.env.cells scope.names []) [] X.env.qual none .none (some X.env)) (fun cenv s₄=>codeAny (model X.prog X.w) X.A (.compStart (.ListComp elt [⟨tgt,iter,ifs,0⟩] scope pos) 0 (.ref it) acc {cenv with scope:=relabel scope X.env}) (RR acc cenv.locals) s₄) E s₃) E s2:=by
 have hfc:∀y∈scope.names,y.2=.free->∃c,X.env.cells.lookup y.1=some c:=fun y hy hk=>I2.ok.has _ (S.free y hy hk);have hsub:∀y c,(d7 X.env.cells scope.names []).lookup y=some c->X.env.cells.lookup y=some c:=ie hfc (fun y c e=>by simp at e);refine wpAny_newObj_type (wpAny_newFunctionEnv S.cell (by intro y hy;simp at hy) (fun h₁ hns₁ hsb₁=>?_) S.kind);dsimp only at hns₁ hsb₁ ⊢;generalize hH2:s2.heap.push {cls:=.type "list",dict:=none,data:=.seq ([]:List Value).toArray}=G2 at hns₁ hsb₁ ⊢;have hCz:G2.objs.size=s2.heap.objs.size+1:=by rw [<- hH2,lj]
 have hDC:s2.heap.objs.size≠G2.objs.size:=by rw [hCz];exact cD (Cr _)
 have below:∀b,b<s2.heap.objs.size->b≠G2.objs.size:=fun b hb=>by omega
 have old:∀b o,s2.heap.get? b=some o->h₁.get? b=some o:=fun b o e=>hsb₁.extBut b o (below b (zq7 e)) (cy _ (hH2 ▸ cy _ e));have hacc:h₁.get? s2.heap.objs.size=some {cls:=.type "list",dict:=none,data:=.seq ([]:List Value).toArray}:=hsb₁.extBut _ _ hDC (cy _ (hH2 ▸ dy _ rfl));have hnD:H2 s2.heap.objs.size=none:=I2.hok.fresh (zq0 _);have hnC:H2 G2.objs.size=none:=I2.hok.fresh Jn;obtain ⟨W,⟨m0,w0⟩,turn⟩:=hcw s2.heap.objs.size hnD ⟨G2.objs.size,fp,s2,H2⟩;have nlt:∀{b:Addr} {o:Obj},s2.heap.get? b=some o->b≠s2.heap.objs.size:=fun q=>cD (zq7 q);have fpl:∀b∈fp,b<s2.heap.objs.size:=fun b hb=>by obtain ⟨o,e,_⟩:=T.obj _ _ st2 b hb;exact zq7 e
 have clt:∀y c,(d7 X.env.cells scope.names []).lookup y=some c->c<s2.heap.objs.size:=fun y c e=>by obtain ⟨v,q⟩:=I2.cell y c (hsub y c e);exact q.lt
 have hasC:∀y,((relabel scope X.env).names.lookup y=some .cell\/(relabel scope X.env).names.lookup y=some .free)->∃c,(d7 X.env.cells scope.names []).lookup y=some c:=fun y hk=>by
  rcases hk with z | z
  ·exact dY (dP z (.inl rfl) S.cell)
  ·exact dY (dP z (.inr rfl) S.cell)
 have ok:(X.blk (".0"::(tns++cns)) scope ⟨G2.objs.size,fp,s2,H2⟩).Ok:={
  mod:=I2.ok.mod
  kind:=S.kind
  glob:=I2.ok.glob
  blt:=I2.ok.blt
  above:=by show s2.heap.objs.size<=G2.objs.size;omega
  inj:=fun y z c e1 e2=>I2.ok.inj y z c (hsub y c e1) (hsub z c e2)
  has:=fun y hk=>hasC y hk
  cab:=fun y c e=>by
   have e':(false=true):=e
   cases e'
  hd:=I2.ok.hd
  frames:=I2.ok.frames
  stk:=.inl rfl
  exf:=fun b hb=>⟨below b (fpl b hb),fun y c e=>(f2 b hb).2.2.2.2.1 y c (hsub y c e)⟩
  bs:=I2.bs
  bsz:=cR I2.ok.bsz I2.sz
  noex:=fun b o e hb=>by
   rcases (f2 b hb).2.2.2.1 with z | z
   ·exact I2.ok.noex b o e z
   ·exact absurd (dS (zq7 e) (cR I2.ok.bsz z)) (nJ _)
  exfs:=fun b hb hf=>by
   rcases zq5.mp (I2.stkSub b hf) with z | z
   ·exact (f2 b hb).2.1 z
   ·exact (f2 b hb).2.2.1 z
  funs:=I2.stack
  frf:=I2.stkFree}
 have hokD:HOk X.prog X.w (upd H2 s2.heap.objs.size (.lst [])) h₁:=I2.hok.laid old (zq0 _) ⟨ce _,zAD ([]) 0 .nil hacc⟩;have clD:∀y c,(d7 X.env.cells scope.names []).lookup y=some c->c≠s2.heap.objs.size:=fun y c e=>cD (clt y c e);have I3:Inv (X.blk (".0"::(tns++cns)) scope ⟨G2.objs.size,fp,s2,H2⟩) [] (aM (List.replicate tns.length none) ci σ) (upd H2 s2.heap.objs.size (.lst [])) {s2 with heap:=h₁,toks:=s2.toks+([]:List (Str×Value)).length}:={
  ok:=ok
  os:=rfl
  bare:=I2.bare
  base:=⟨fun b o e n _ _=>old b o e,fun b o e n _ _=>⟨o.slots,old b o e⟩,fun b o e n _=>by rw [aq (nlt e)];exact n,fun b o e _=>⟨o,old b o e⟩,
   fun b ys e=>by rw [aq (ao e hnD)];exact e,fun b o u e=>by rw [aq (ao e hnD)];exact e,fun b ps e=>⟨#[],by rw [aq (ao e hnD),Array.append_empty];exact e⟩⟩
  loc:=⟨_,hns₁,fun i y v e1 e2 e3=>by
   have e1':((".0":Str)::(tns++cns))[i]?=some y:=e1;unfold aM at e2
   cases i with
   |zero=>simp at e2
   |succ i=>
    rw [Al] at e1' e2
    by_cases hi:i<tns.length
    ·rw [jr (by simpa using hi),Af,if_pos hi] at e2
     cases e2
    ·rw [j9 Jn] at e1';rw [j9 (by simp;omega),Ag] at e2;obtain ⟨q,hq,hN,hm⟩:=S.cap _ _ e1';rw [cf,hq] at e2;have e2':(σ[q]?).join=some v:=by simpa using e2
     have e4:σ[q]?=some (some v):=by
      cases z:σ[q]? with
      |none=>rw [z] at e2';cases e2'
      |some o=>rw [z] at e2';rw [show o=some v from e2']
     obtain ⟨m,hns,hl⟩:=I2.loc;have hvis:Vis X.env.scope y:=by
      rcases S.free (y,.free) hm rfl with z | z
      ·exact .inr (.inl z)
      ·exact .inr (.inr z)
     obtain ⟨u,ru,lk⟩:=hl q y v hN e4 hvis;refine zn u ru (.inr ?_);have hkk:X.env.kindOf y=some .cell\/X.env.kindOf y=some .free:=S.free (y,.free) hm rfl;rcases lk with ⟨k1,_⟩ | ⟨_,c,hc1,hc2⟩
     ·rcases hkk with z | z<;>(rw [k1] at z;cases z)
     ·obtain ⟨c',hc'⟩:=dY (cells:=X.env.cells) (acc:=[]) hm;have ecc:c'=c:=by have:=hsub y c' hc';rw [hc1] at this;cases this;rfl
      subst ecc;have e3':Vis (relabel scope X.env) y:=e3;refine ⟨?_,zn c' hc' ?_⟩
      ·rcases e3' with z | z | z
       ·exfalso;exact S.noloc y hm z
       ·exact .inl z
       ·exact .inr z
      ·exact hc2.keeps old⟩
  cell:=fun y c e=>by obtain ⟨v,q⟩:=I2.cell y c (hsub y c e);exact ⟨v,q.keeps old⟩
  free:=by show upd H2 s2.heap.objs.size (.lst []) G2.objs.size=none;rw [aq (Ne.symm hDC)];exact hnC
  freeC:=fun y c e=>by rw [aq (clD y c e)];exact I2.freeC y c (hsub y c e)
  pin:=fun p hp=>by have hp':p∈([]:List (Addr×Obj))++[]:=hp;simp at hp'
  hok:=hokD
  len:=by show (aM _ ci σ).length=((".0":Str)::(tns++cns)).length;unfold aM;simp [S.len]}
 have st3:tn 0 h₁:=T.keep _ _ _ st2 fun b _ o e=>old b o e;have fr3:∀b∈fp,upd H2 s2.heap.objs.size (.lst []) b=none:=fun b hb=>by rw [aq (cD (fpl b hb))];exact (f2 b hb).1
 have stat:∀{H':Hp},(∀b∈fp,H' b=none)->∀b∈fp,jl (X.blk (".0"::(tns++cns)) scope ⟨G2.objs.size,fp,s2,H2⟩) [] H' b:=fun hn b hb=>zAQ (hn b hb) (below b (fpl b hb)) (ok.exfs b hb) (.inl hb) (fun y c e=>(f2 b hb).2.2.2.2.1 y c (hsub y c e)) fun p hp=>by have hp':p∈([]:List (Addr×Obj))++[]:=hp;simp at hp'
 have loop:∀s₃:Shared,s₃={s2 with heap:=h₁,toks:=s2.toks+([]:List (Str×Value)).length}->
   codeAny (model X.prog X.w) X.A (.compLoop (.ListComp elt [⟨tgt,iter,ifs,0⟩] scope pos) 0 (.ref it) (.ref s2.heap.objs.size) (compEnvC scope (d7 X.env.cells scope.names []) G2.objs.size X.env))
    (RR (.ref s2.heap.objs.size) G2.objs.size) s₃:=by
  rintro s₃ rfl;refine ig (fun n s'=>∃(i:Nat)(os:List (Option V)) (ys:List V) (H':Hp),os.length=tns.length/\Inv (X.blk (".0"::(tns++cns)) scope ⟨G2.objs.size,fp,s2,H2⟩) [] (aM os ci σ) H' s'/\tn i s'.heap/\(∀b∈fp,H' b=none)/\W i n ys H') ?_ m0 (zAN 0 _ ([]) _ Jo I3 st3 fr3 w0);rintro n s4 ⟨i,os,ys,H4,hos,I4,st4,fr4,w4⟩;rcases turn i n ys H4 w4 with ⟨stop,q⟩ | ⟨go,N,hN,step⟩
  ·refine thn (T.done (X.blk (".0"::(tns++cns)) scope ⟨G2.objs.size,fp,s2,H2⟩) rfl rfl rfl hc i [] s4 _ H4 (fun _ _=>False) I4 (stat fr4) st4 stop) fun r s5 ⟨hr,I5⟩=>?_;subst hr;obtain ⟨m,hm,_⟩:=I5.loc;have fC:H4 G2.objs.size=none:=I5.free;have ub:Un (frs X.stack) fp H2 H4 s2.heap s5.heap:=I5.base;have IX:Inv X pins σ H4 s5:=I2.call' (s':=s5) (show s5.os=s2.os from I5.os) ub I5.hok I5.bare fun b hb=>zAG (f2 b hb).2.2.2.1 (f2 b hb).2.1 (f2 b hb).2.2.2.2.1 (f2 b hb).2.2.2.2.2
   exact fin _ _ s5 H4 m IX hm (I2.fpOk Jn fC) q
  ·refine thn (T.item (X.blk (".0"::(tns++cns)) scope ⟨G2.objs.size,fp,s2,H2⟩) rfl rfl rfl hc i [] s4 _ H4 (fun _ _=>False) I4 (stat fr4) st4 go) fun r s5 ⟨u,hr,h5⟩=>?_;subst hr;refine thn h5 fun _ s6 hhx=>?_;obtain ⟨y,H6,I6,r6,y6,st6,fr6⟩:=hhx;have I6':=I6.pinned (stat fr6) (T.obj _ _ st6);refine thn (hg _ _ s6 _ H6 y u _ I6' r6 (step y H6 os hos y6)) fun _ s7 ⟨σ7,H7,I7,⟨os',hos',e7⟩,q7⟩=>?_;subst e7;have back:∀{H9:Hp} {s9:Shared},Inv (X.blk (".0"::(tns++cns)) scope ⟨G2.objs.size,fp,s2,H2⟩) ([]++i0 fp s6.heap) (aM os' ci σ) H9 s9->tn (i+1) s9.heap/\∀b∈fp,H9 b=none:=fun {H9 s9} I9=>⟨T.keep _ _ _ st6 fun b hb ob e=>(I9.pin (b,ob) (eM _ (eM _ (cX hb e)))).1,fun b hb=>by obtain ⟨ob,e,d⟩:=T.obj _ _ st6 b hb;exact (I9.pin (b,ob) (eM _ (eM _ (cX hb e)))).2.1⟩
   refine thn (ht _ _ s7 _ H7 _ I7 q7) fun b s8 hhx=>?_;obtain ⟨H8,I8,q8⟩:=hhx
   cases b with
   |false=>
    rw [if_neg zq6] at q8 ⊢;obtain ⟨m',hm',w8⟩:=hN _ _ q8;exact zn m' hm' (zAN (i+1) os' ys _ hos' I8.unpinned (back I8).1 (back I8).2 w8)
   |true=>rw [if_pos rfl] at q8 ⊢;refine thn (he _ _ s8 _ H8 _ I8 q8) fun zv s8 hhx=>?_;obtain ⟨z,H8,I8,rz,ha8,hl8,n8⟩:=hhx;obtain ⟨m',hm',w8⟩:=hN _ _ n8;refine thn (ba (X:=X.blk (".0"::(tns++cns)) scope ⟨G2.objs.size,fp,s2,H2⟩) _ s8 _ H8 (.ref s2.heap.objs.size) [z] (.ref s2.heap.objs.size) [zv] (fun _ H9=>H9=upd H8 s2.heap.objs.size (.lst (ys++[z]))) I8 rfl (.cons rz .nil) (zAL _ ys z rfl rfl ha8 hl8 rfl)) fun _ s9 hhx=>?_;obtain ⟨_,H9,I9,_,e9⟩:=hhx;subst e9;exact zn m' hm' (zAN (i+1) os' (ys++[z]) _ hos' I9.unpinned (back I9).1 (back I9).2 w8)
 exact codeAny_compStart_list (loop _ rfl) (T.self _ 0 _ _ _ st3 (loop _ rfl))
theorem yy{X:Cx}{elt iter tgt:Expr}{ifs:List Expr}{pos:Pos}{scope:Scope}{wi:TI}{g:Bk->TG}{tt:Bk->TT}{te:Bk->TE}{tns cns:List Str}{ci:List Nat}(hc:X.calm=true)(S:CompSc X scope cns ci)(hi:PI X tgt iter wi)
  (hg:∀bk:Bk,PG (X.blk (".0"::(tns++cns)) scope bk) tgt (g bk))
  (ht:∀bk:Bk,vh (X.blk (".0"::(tns++cns)) scope bk) ifs (tt bk))
  (he:∀bk:Bk,PE (X.blk (".0"::(tns++cns)) scope bk) elt (te bk))
  (hs:∀v,foldedSetIterable iter X.env v=pure v:=by intro _;rfl) :
  PE X (.ListComp elt [⟨tgt,iter,ifs,0⟩] scope pos) (kJ wi g tt te tns.length ci):=by
 intro pins s σ H Q I h;have hfc:∀y∈scope.names,y.2=.free->∃c,X.env.cells.lookup y.1=some c:=fun y hy hk=>I.ok.has _ (S.free y hy hk);rw [eval_ListComp];refine wpAny_comprehension_free (use:=none) rfl hs (eI hfc) S.kind S.names (thn (hi pins s σ H _ I h) fun v s1 h1=>thn h1 fun itv s2 h2=>?_);obtain ⟨it,fp,tn,J,H2,rfl,I2,T,st2,f2,hcw⟩:=h2;refine lO (RR:=fun acc C=>compPost (model X.prog X.w) X.A X.xe none (EP X pins σ Q) acc C) hc S hg ht he I2 T st2 f2 hcw fun D C s5 H4 m I5 hm fo q=>?_;refine zn m hm fun h' hs'=>zAA (.ref D) H4 ?_ rfl q;exact I5.turned (t':=s5.toks) (it:=C) (fun b o hb e=>(hs'.2 b hb).trans e) fo.1 fo.2.1 fo.2.2.2.1 fo.2.2.2.2.1 fo.2.2.2.2.2
def kC(i:Nat)(wi:TI)(g:Bk->TG)(tt:Bk->TT)(te:Bk->TE)(nt:Nat)(ci:List Nat):TS:=fun D σ H=>wi σ H fun J H1=>∀acc,H1 acc=none->∀bk:Bk,ck J (g bk) (tt bk) (te bk) nt ci σ acc (fun H'=>D.nx (σ.set i (some (.ref acc))) H') (upd H1 acc (.lst []))
theorem rK{X:Cx}{i:Nat}{x:Str}{px pos':Pos}{elt iter tgt:Expr}{ifs:List Expr}{pos:Pos}{scope:Scope}{wi:TI}{g:Bk->TG}{tt:Bk->TT}{te:Bk->TE}{tns cns:List Str}{ci:List Nat}
  (hN:X.N.Nodup) (hx:X.N[i]?=some x) (hl:Loc X.env.scope x) (hf:X.fn x=true) (hsw:swapsWith (.ListComp elt [⟨tgt,iter,ifs,0⟩] scope pos) (some (.Name x px)) pos'.line X.env=pure true)
  (hc:X.calm=true) (S:CompSc X scope cns ci) (hi:PI X tgt iter wi)
  (hg:∀bk:Bk,PG (X.blk (".0"::(tns++cns)) scope bk) tgt (g bk))
  (ht:∀bk:Bk,vh (X.blk (".0"::(tns++cns)) scope bk) ifs (tt bk))
  (he:∀bk:Bk,PE (X.blk (".0"::(tns++cns)) scope bk) elt (te bk))
  (hs:∀v,foldedSetIterable iter X.env v=pure v:=by intro _;rfl) :
  PS X (.Assign [.Name x px] (.ListComp elt [⟨tgt,iter,ifs,0⟩] scope pos) pos') (kC i wi g tt te tns.length ci):=by
 intro pins s σ H D I h;have hfc:∀y∈scope.names,y.2=.free->∃c,X.env.cells.lookup y.1=some c:=fun y hy hk=>I.ok.has _ (S.free y hy hk);rw [exec_Assign_Name_used _ _ _ _ hsw];refine wpAny_bind (wpAny_standAt (wpAny_bind ?_));show wpAny _ _ (do let _ <- comprehension (.ListComp elt [⟨tgt,iter,ifs,0⟩] scope pos) scope X.env _ (newList []) false (eval iter X.env) (some (assign (.Name x px) X.env))) _ _ s;refine wpAny_bind (wpAny_mono (wpAny_comprehension_free (use:=some (assign (.Name x px) X.env)) (Q:=fun _ s'=>SP X pins D .next s') rfl hs (eI hfc) S.kind S.names
  (thn (hi pins s σ H _ I h) fun v s1 h1=>thn h1 fun itv s2 h2=>?_)) (fun _ s' hq=>wpAny_pure (wpAny_pure hq)) fun _ _ e=>e)
 obtain ⟨it,fp,tn,J,H2,rfl,I2,T,st2,f2,hcw⟩:=h2;refine lO (RR:=fun acc C=>compPost (model X.prog X.w) X.A X.xe (some (assign (.Name x px) X.env)) (fun _ s'=>SP X pins D .next s') acc C) hc S hg ht he I2 T st2 f2 hcw fun D' C s5 H4 m I5 hm fo q=>?_;obtain ⟨o,es,ep,ho,hd,hr⟩:=id hm;have IP:Inv X (pins++i0 [C] s5.heap) σ H4 s5:=I5.pinned (fp:=[C]) (fun b hb=>by rw [zq2.mp hb];exact fo) fun b hb=>by rw [zq2.mp hb];exact zn o ho fun v z=>by rw [hd] at z;cases z
 show wpAny _ _ (assign (.Name x px) X.env (.ref D')) _ _ s5;refine thn (tZ (X:=X) (i:=i) hN hx hl (.inl hf) _ s5 σ H4 (.ref D') (.ref D') (fun σ' H'=>σ'=σ.set i (some (.ref D'))/\H'=H4) IP rfl ⟨rfl,rfl⟩) fun _ s6 hhx=>?_;obtain ⟨σ6,H6,I6,e1,e2⟩:=hhx;subst e1 e2;have hC6:s6.heap.get? C=some o:=(I6.pin (C,o) (eM _ (eM _ (cX (zq2.mpr rfl) ho)))).1;refine zn m (zAO o es ep hC6 hd hr) fun h' hs'=>zAD _ _ ?_ q;exact I6.unpinned.turned (t':=s6.toks) (it:=C) (fun b o hb e=>(hs'.2 b hb).trans e) fo.1 fo.2.1 fo.2.2.2.1 fo.2.2.2.2.1 fo.2.2.2.2.2
def wA(scope osc:Scope):List (Str×NameKind):=scope.names.map fun (n,k)=>if (k==NameKind.free&&osc.kind==.function&&osc.names.lookup n==some .cell) then (n,NameKind.cell) else (n,k)
def jP(N:List Str)(names:List (Str×NameKind)):List Str->List Nat->Bool
 | [],[]=>true
 |x::xs,i::is=>N[i]?==some x&&names.any (fun y=>y.1==x&&y.2==.free)&&jP N names xs is
 |_,_=>false
def Fb(osc:Scope)(N:List Str)(scope:Scope)(cns:List Str)(ci:List Nat):Bool:=
 scope.kind==.function&&scope.names.all (fun y=>y.2 != .cell)&&scope.names.all (fun y=>y.2 != .local || scope.names.lookup y.1==some .local) &&
 scope.names.all (fun y=>y.2 != .free || (osc.names.lookup y.1==some .cell || osc.names.lookup y.1==some .free))&&jP N scope.names cns ci &&
 scope.names.all (fun y=>y.2 != .free || (wA scope osc).lookup y.1 != some .local)
theorem iQ{N:List Str}{names:List (Str×NameKind)}:∀{cns:List Str} {ci:List Nat},jP N names cns ci=true->cns.length=ci.length/\∀(j:Nat)x,cns[j]?=some x->∃i,ci[j]?=some i/\N[i]?=some x/\(x,NameKind.free)∈names
 | [],[],_=>⟨rfl,fun j x e=>by simp at e⟩
 | [],_::_,h=>by simp [jP] at h
 |_::_,[],h=>by simp [jP] at h
 |x::xs,i::is,h=>by
  unfold jP at h;rw [dF,dF] at h;obtain ⟨⟨h1,h2⟩,h3⟩:=h;obtain ⟨l,r⟩:=iQ h3;refine ⟨by simp [l],fun j y e=>?_⟩
  cases j with
  |zero=>
   have e':x=y:=by simpa using e
   subst e';refine zAC i Jo (by simpa using h1) ?_;obtain ⟨z,hz,hq⟩:=zq69.mp h2;rw [dF] at hq;obtain ⟨a,b⟩:=z;have e1:a=x:=by simpa using hq.1
   have e2:b=.free:=by simpa using hq.2
   subst e1 e2;exact hz
  |succ j=>obtain ⟨k,hk⟩:=r j y (by simpa using e);exact zn k (by simpa using hk.1) hk.2
theorem CompSc.of{X:Cx}{scope:Scope}{cns:List Str}{ci:List Nat}(h:Fb X.env.scope X.N scope cns ci=true):CompSc X scope cns ci:=by
 unfold Fb at h;rw [dF,dF,dF,dF,dF] at h;obtain ⟨⟨⟨⟨⟨h1,h2⟩,h3⟩,h4⟩,h5⟩,h6⟩:=h;obtain ⟨l,r⟩:=iQ h5;refine ⟨by simpa using h1,fun y hy=>?_,fun y hy hk=>?_,fun y hy hk=>?_,r,l,fun y hy z=>?_⟩
 ·simpa using zq37.mp h2 y hy
 ·have:=zq37.mp h3 y hy;rw [kO] at this;rcases this with q | q
  ·exact absurd hk (by simpa using q)
  ·simpa using q
 ·have:=zq37.mp h4 y hy;rw [kO,kO] at this;rcases this with q | q | q
  ·exact absurd hk (by simpa using q)
  ·exact .inl (show X.env.scope.names.lookup y.1=_ by simpa using q)
  ·exact .inr (show X.env.scope.names.lookup y.1=_ by simpa using q)
 ·have:=zq37.mp h6 _ hy;rw [kO] at this;rcases this with q | q
  ·simp at q
  ·have z':(wA scope X.env.scope).lookup y=some .local:=z;have q':((wA scope X.env.scope).lookup y != some .local)=true:=q;rw [z'] at q';exact absurd q' Jm
section
variable {K:W.Frag} {g:TG} {tt:TT} {te:TE} {nt:Nat} {ci:List Nat} {σ:St} {acc:Addr} {Q:Hp->Prop} {H0:Hp}
theorem eC{a:Addr}{xs:List V}(Pv:Nat->List V->Hp->Prop)(h0:Pv 0 [] H0)(hl:∀i ys H,i<=xs.length->Pv i ys H->SqL K H a xs)
  (hs:∀(i:Nat)x ys H os,xs[i]?=some x->os.length=nt->Pv i ys H->g x (aM os ci σ) H fun σ1 H1=>(∃os',os'.length=nt/\σ1=aM os' ci σ)/\tt σ1 H1 fun b H2=>if b=true then te σ1 H2 fun z H3=>H3 acc=some (.lst ys)/\ys.length<sizeLine/\Pv (i+1) (ys++[z]) (upd H3 acc (.lst (ys++[z]))) else Pv (i+1) ys H2)
  (hd:∀ys H,Pv xs.length ys H->Q H):ck (Itl K a) g tt te nt ci σ acc Q H0:=by
 refine zn (fun i m ys H=>m=xs.length-i/\i<=xs.length/\Pv i ys H) (zAC xs.length Jo (ce _) h0) ?_;rintro i m ys H ⟨rfl,hi,p⟩;have q:=hl i ys H hi p
 by_cases hlt:i<xs.length
 ·refine .inr ⟨zAD xs (xs[i]) q (by simp [hlt]),zn (Pv (i+1)) (fun ys' H' p'=>zAF (xs.length-(i+1)) Jn rfl hlt p') fun y H' os ho yl=>?_⟩;obtain ⟨rfl,yl⟩:=yl;exact hs i y ys H' os (yl xs q) ho p
 ·have e:i=xs.length:=by omega
  subst e;exact .inl ⟨zn xs q (zq0 _),hd ys H p⟩
theorem Dh{a:Addr}{xs:List V}(Pv:Nat->List V->Hp->Prop)(h0:Pv 0 [] H0)(hl:∀i ys H,i<=xs.length->Pv i ys H->SqT K H a xs)
  (hs:∀(i:Nat)x ys H os,xs[i]?=some x->os.length=nt->Pv i ys H->g x (aM os ci σ) H fun σ1 H1=>(∃os',os'.length=nt/\σ1=aM os' ci σ)/\tt σ1 H1 fun b H2=>if b=true then te σ1 H2 fun z H3=>H3 acc=some (.lst ys)/\ys.length<sizeLine/\Pv (i+1) (ys++[z]) (upd H3 acc (.lst (ys++[z]))) else Pv (i+1) ys H2)
  (hd:∀ys H,Pv xs.length ys H->Q H):ck (Itt K a) g tt te nt ci σ acc Q H0:=by
 refine zn (fun i m ys H=>m=xs.length-i/\i<=xs.length/\Pv i ys H) (zAC xs.length Jo (ce _) h0) ?_;rintro i m ys H ⟨rfl,hi,p⟩;have q:=hl i ys H hi p
 by_cases hlt:i<xs.length
 ·refine .inr ⟨zAD xs (xs[i]) q (by simp [hlt]),zn (Pv (i+1)) (fun ys' H' p'=>zAF (xs.length-(i+1)) Jn rfl hlt p') fun y H' os ho yl=>?_⟩;obtain ⟨rfl,yl⟩:=yl;exact hs i y ys H' os (yl xs q) ho p
 ·have e:i=xs.length:=by omega
  subst e;exact .inl ⟨zn xs q (zq0 _),hd ys H p⟩
theorem jQ{lo:Int}{n:Nat}(Pv:Nat->List V->Hp->Prop)(h0:Pv 0 [] H0)
  (hs:∀(i:Nat)ys H os,i<n->os.length=nt->Pv i ys H->g (.int (lo+i)) (aM os ci σ) H fun σ1 H1=>(∃os',os'.length=nt/\σ1=aM os' ci σ)/\tt σ1 H1 fun b H2=>if b=true then te σ1 H2 fun z H3=>H3 acc=some (.lst ys)/\ys.length<sizeLine/\Pv (i+1) (ys++[z]) (upd H3 acc (.lst (ys++[z]))) else Pv (i+1) ys H2)
  (hd:∀ys H,Pv n ys H->Q H):ck (Itr lo n) g tt te nt ci σ acc Q H0:=by
 refine zn (fun i m ys H=>m=n-i/\i<=n/\Pv i ys H) (zAC n Jo (ce _) h0) ?_;rintro i m ys H ⟨rfl,hi,p⟩
 by_cases hlt:i<n
 ·refine .inr ⟨hlt,zn (Pv (i+1)) (fun ys' H' p'=>zAF (n-(i+1)) Jn rfl hlt p') fun y H' os ho yl=>?_⟩;obtain ⟨rfl,rfl⟩:=yl;exact hs i ys H' os hlt ho p
 ·have e:i=n:=by omega
  subst e;exact .inl ⟨zq0 _,hd ys H p⟩
end
end L2
namespace L2
def isiT:List String:=["int","bool","str","list","tuple","dict"]
inductive i5 (K:W.Frag) (H:Hp):V->String->Prop where
 |non:i5 K H .non "NoneType"
 |bl {b:Bool}:i5 K H (.bl b) "bool"
 |int {i:Int}:i5 K H (.int i) "int"
 |str {x:Str}:i5 K H (.str x) "str"
 |lst {a:Addr} {xs:List V} (h:SqL K H a xs):i5 K H (.ref a) "list"
 |tup {a:Addr} {xs:List V} (h:SqT K H a xs):i5 K H (.ref a) "tuple"
 |dic {a:Addr} (h:IsD H a):i5 K H (.ref a) "dict"
def mO(k T:String):Bool:=k==T || (k=="bool"&&T=="int")
def wm(K:W.Frag):List V->Hp->VK->Prop:=fun xs H Q=>∃x T k,xs=[x,.ty T]/\isiT.contains T=true/\i5 K H x k/\Q (.bl (mO k T)) H
section
variable {X:Cx}
theorem bD:eA X (.builtin "isinstance") (wm X.K):=by
 intro pins s σ H xs us Q I r h;obtain ⟨x,T,k,rfl,hT,hk,q⟩:=h;obtain ⟨u,v,rfl,ru,rv⟩:=A1 r
 cases rv
 have hT':T="int"\/T="bool"\/T="str"\/T="list"\/T="tuple"\/T="dict":=by simpa [isiT] using hT
 have fin:∀{b:Bool},b=mO k T->EP X pins σ Q (.bool b) s:=fun e=>zAA (.bl _) H I rfl (by rw [e];exact q)
 have finT:∀{b:Bool},b=mO k T->EP X pins σ Q (.bool b) {s with toks:=s.toks+1}:=fun e=>zAA (.bl _) H (I.tok _) rfl (by rw [e];exact q)
 cases hk with
 |non=>
  cases ru
  rcases hT' with rfl | rfl | rfl | rfl | rfl | rfl
  ·exact IsiPair.NoneType_int (finT Jk)
  ·exact IsiPair.NoneType_bool (finT Jk)
  ·exact IsiPair.NoneType_str (finT Jk)
  ·exact IsiPair.NoneType_list (finT Jk)
  ·exact IsiPair.NoneType_tuple (finT Jk)
  ·exact IsiPair.NoneType_dict (finT Jk)
 |bl=>
  cases ru
  rcases hT' with rfl | rfl | rfl | rfl | rfl | rfl
  ·exact IsiPair.bool_int (fin Jk)
  ·exact IsiPair.bool_bool (fin Jk)
  ·exact IsiPair.bool_str (finT Jk)
  ·exact IsiPair.bool_list (finT Jk)
  ·exact IsiPair.bool_tuple (finT Jk)
  ·exact IsiPair.bool_dict (finT Jk)
 |int=>
  obtain ⟨t,rfl⟩:=ru;rcases hT' with rfl | rfl | rfl | rfl | rfl | rfl
  ·exact IsiPair.int_int (fin Jk)
  ·exact IsiPair.int_bool (finT Jk)
  ·exact IsiPair.int_str (finT Jk)
  ·exact IsiPair.int_list (finT Jk)
  ·exact IsiPair.int_tuple (finT Jk)
  ·exact IsiPair.int_dict (finT Jk)
 |str=>
  obtain ⟨t,rfl⟩:=ru;rcases hT' with rfl | rfl | rfl | rfl | rfl | rfl
  ·exact IsiPair.str_int (finT Jk)
  ·exact IsiPair.str_bool (finT Jk)
  ·exact IsiPair.str_str (fin Jk)
  ·exact IsiPair.str_list (finT Jk)
  ·exact IsiPair.str_tuple (finT Jk)
  ·exact IsiPair.str_dict (finT Jk)
 |lst hl=>
  cases ru
  obtain ⟨its,_,⟨o,n,e,c,_⟩,_⟩:=I.list hl;rcases hT' with rfl | rfl | rfl | rfl | rfl | rfl
  ·exact IsiPair.list_int e c (finT Jk)
  ·exact IsiPair.list_bool e c (finT Jk)
  ·exact IsiPair.list_str e c (finT Jk)
  ·exact IsiPair.list_list e c (fin Jk)
  ·exact IsiPair.list_tuple e c (finT Jk)
  ·exact IsiPair.list_dict e c (finT Jk)
 |tup hl=>
  cases ru
  obtain ⟨its,_,⟨o,e,c,_⟩,_⟩:=I.tuple hl;rcases hT' with rfl | rfl | rfl | rfl | rfl | rfl
  ·exact IsiPair.tuple_int e c (finT Jk)
  ·exact IsiPair.tuple_bool e c (finT Jk)
  ·exact IsiPair.tuple_str e c (finT Jk)
  ·exact IsiPair.tuple_list e c (finT Jk)
  ·exact IsiPair.tuple_tuple e c (fin Jk)
  ·exact IsiPair.tuple_dict e c (finT Jk)
 |dic hl=>
  cases ru
  obtain ⟨o,e,c⟩:=(xN I hl).1;rcases hT' with rfl | rfl | rfl | rfl | rfl | rfl
  ·exact IsiPair.dict_int e c (finT Jk)
  ·exact IsiPair.dict_bool e c (finT Jk)
  ·exact IsiPair.dict_str e c (finT Jk)
  ·exact IsiPair.dict_list e c (finT Jk)
  ·exact IsiPair.dict_tuple e c (finT Jk)
  ·exact IsiPair.dict_dict e c (fin Jk)
end
section
variable {H:Hp} {Q:VK} {σ:St} {D:dm} {K:W.Frag}
theorem BJ{wi:TI}{g:Bk->TG}{tt:Bk->TT}{te:Bk->TE}{nt:Nat}{ci:List Nat}:kJ wi g tt te nt ci σ H Q=wi σ H fun J H1=>∀acc,H1 acc=none->∀bk:Bk,ck J (g bk) (tt bk) (te bk) nt ci σ acc (fun H'=>Q (.ref acc) H') (upd H1 acc (.lst [])):=rfl
theorem wu{i:Nat}{wi:TI}{g:Bk->TG}{tt:Bk->TT}{te:Bk->TE}{nt:Nat}{ci:List Nat}:kC i wi g tt te nt ci D σ H=wi σ H fun J H1=>∀acc,H1 acc=none->∀bk:Bk,ck J (g bk) (tt bk) (te bk) nt ci σ acc (fun H'=>D.nx (σ.set i (some (.ref acc))) H') (upd H1 acc (.lst [])):=rfl
theorem Gj{Q:Bool->Hp->Prop}:j1 σ H Q=Q true H:=rfl
end
end L2
namespace L2
variable {p:Addr} {x:V}
section
variable {H:Hp} {Q:VK} {σ:St} {D:dm} {K:W.Frag}
theorem Gh{a:Addr}{lo hi:Option Int}:FI K (.ref a) lo hi H Q=∃xs,SqT K H a xs/\¬(HT.sIx xs.length 0 lo=0/\HT.sIx xs.length xs.length hi=xs.length)/\∀p,H p=none->Q (.ref p) (upd H p (.tup (eJ xs lo hi))):=propext ⟨by rintro ⟨_,xs,e1,h⟩;cases e1;exact ⟨xs,h⟩,by rintro ⟨xs,h⟩;exact zAD _ xs rfl h⟩
theorem G3:rIn K false x (.ref p) H Q=∃xs,(SqL K H p xs\/SqT K H p xs)/\bH x=true/\xs.all bH=true/\Q (.bl (inV x xs)) H:=propext ⟨by rintro ⟨_,xs,e1,h⟩;cases e1;exact ⟨xs,h⟩,by rintro ⟨xs,h⟩;exact zAD _ xs rfl h⟩
theorem yZ:rIn K true x (.ref p) H Q=∃xs,(SqL K H p xs\/SqT K H p xs)/\bH x=true/\xs.all bH=true/\Q (.bl (!inV x xs)) H:=propext ⟨by rintro ⟨_,xs,e1,h⟩;cases e1;exact ⟨xs,h⟩,by rintro ⟨xs,h⟩;exact zAD _ xs rfl h⟩
end
theorem Paired.get{α β:Type}{F:α->β->Prop}:∀{l₁:List α} {l₂:List β} {i:Nat} {a:α},Paired F l₁ l₂->l₁[i]?=some a->∃b,l₂[i]?=some b/\F a b
 |_,_,_,_,.nil,e=>by simp at e
 |_,_,0,_,.cons h _,e=>by simp at e;subst e;exact zn _ rfl h
 |_,_,i+1,a,.cons _ t,e=>by obtain ⟨b,h1,h2⟩:=Paired.get (i:=i) (a:=a) t (by simpa using e);exact zn b (by simpa using h1) h2
theorem Paired.getR{α β:Type}{F:α->β->Prop}:∀{l₁:List α} {l₂:List β} {i:Nat} {b:β},Paired F l₁ l₂->l₂[i]?=some b->∃a,l₁[i]?=some a/\F a b
 |_,_,_,_,.nil,e=>by simp at e
 |_,_,0,_,.cons h _,e=>by simp at e;subst e;exact zn _ rfl h
 |_,_,i+1,b,.cons _ t,e=>by obtain ⟨a,h1,h2⟩:=Paired.getR (i:=i) (b:=b) t (by simpa using e);exact zn a (by simpa using h1) h2
theorem Same.updM{H0 H:Hp}{o:HO}(s:Same H0 H)(h:H0 p=none):Same H0 (L2.upd H p o):=fun b u e=>by rw [aq (ao e h)];exact s b u e
theorem Same.updN{H0 H:Hp}{o:HO}(s:Same H0 H)(h:H p=none):Same H0 (L2.upd H p o):=s.updM (s.free h)
theorem ip{b:Bool}{A B:Prop}(h1:b=true->A)(h2:b=false->B):if b=true then A else B:=by
 cases b
 ·rw [if_neg zq6];exact h2 rfl
 ·rw [if_pos rfl];exact h1 rfl
theorem Dj{CX:CXT}{P:Program}{w:World}{K:W.Frag}{mg:Str->Option Value}{base:Heap}{N:List Str}{qual:Str}{scope:Scope}{f:Addr}{cd:Value}{A:Around}{outer:List Env}{s:Shared}{H:Hp}{E:XK}:(qW CX P w K mg base N qual scope f cd A outer s H E).K=K:=rfl
theorem F2{X:Cx}{E:Value->Shared->Prop}:(X.wish E).K=X.K:=rfl
theorem F9{X:Cx}{N':List Str}{scope:Scope}{b:Bk}:(X.blk N' scope b).K=X.K:=rfl
theorem E7{o:Option V}{ci:List Nat}{σ:St}:aM [o] ci σ=none::o::ci.map fun i=>(σ[i]?).join:=rfl
theorem E8{o o':Option V}{ci:List Nat}{σ:St}:aM [o,o'] ci σ=none::o::o'::ci.map fun i=>(σ[i]?).join:=rfl
theorem kf{n k:Nat}{P:Prop}(h:¬HT.sIx n 0 (some (k:Int))=0):¬(HT.sIx n 0 (some (k:Int))=0/\P):=fun z=>h z.1
def iV:V->Bool
 | .str _=>true
 |_=>false
theorem jv{n:Str}:∀{ns:List Str},inV (.str n) (ns.map V.str)=decide (n∈ns)
 | []=>by simp [inV]
 |m::ns=>by
  have ih:=jv (n:=n) (ns:=ns);unfold inV at ih ⊢;rw [dh,qM,ih];have e:eqV (.str m) (.str n)=decide (m=n):=by unfold eqV;rfl
  rw [e]
  by_cases h1:m=n
  ·subst h1;simp
  ·have h2:¬n=m:=fun z=>h1 z.symm;simp [h1,h2]
theorem gv:∀{ns:List Str},(ns.map V.str).all bH=true
 | []=>rfl
 |n::ns=>by rw [dh,sC,gv];rfl
section
variable {K:W.Frag} {tt:TT} {te:TE} {ci:List Nat} {σ:St} {acc:Addr} {Q:Hp->Prop} {H1:Hp} {a:Addr} {xs:List V}
theorem vw(p:V->Bool)(f:V->V){x:V}{ys:List V}{H:Hp}{os:List (Option V)}{i:Nat}{Pv:Nat->List V->Hp->Prop}(ho:os.length=1)(hi:xs[i]?=some x)
  (hp:∀Q',Q' (p x) H->tt (aM [some x] ci σ) H Q') (hf:∀Q',p x=true->Q' (f x) H->te (aM [some x] ci σ) H Q') (hacc:H acc=some (.lst ys)) (hlen:ys.length<sizeLine)
  (h1:p x=true->Pv (i+1) (ys++[f x]) (upd H acc (.lst (ys++[f x])))) (h2:p x=false->Pv (i+1) ys H) :
  c6 1 x (aM os ci σ) H fun σ1 H1=>(∃os',os'.length=1/\σ1=aM os' ci σ)/\tt σ1 H1 fun b H2=>if b=true then te σ1 H2 fun z H3=>H3 acc=some (.lst ys)/\ys.length<sizeLine/\Pv (i+1) (ys++[z]) (upd H3 acc (.lst (ys++[z]))) else Pv (i+1) ys H2:=by
 have e:(aM os ci σ).set 1 (some x)=aM [some x] ci σ:=by
  match os,ho with
  | [o],_=>rfl
 show (∃os',os'.length=1/\(aM os ci σ).set 1 (some x)=aM os' ci σ)/\tt ((aM os ci σ).set 1 (some x)) H _;rw [e];refine ⟨zn ([some x]) rfl rfl,hp _ ?_⟩
 cases hb:p x with
 |true=>rw [if_pos rfl];exact hf _ hb (zAB hacc hlen (h1 hb))
 |false=>rw [if_neg zq6];exact h2 hb
theorem cV{p:V->Bool}{f:V->V}{xs:List V}{i:Nat}(hi:xs[i]?=some x):((xs.take (i+1)).filter p).map f=((xs.take i).filter p).map f++(if p x=true then [f x] else []):=by
 obtain ⟨h,e⟩:=zq10.mp hi;rw [eN h,e,Cy,cS];congr 1
 cases hb:p x<;>simp [hb]
theorem oM{p:V->Bool}{f:V->V}{xs:List V}{i:Nat}(hi:xs[i]?=some x)(hz:xs.length<=sizeLine):(((xs.take i).filter p).map f).length<sizeLine:=by obtain ⟨h,e⟩:=zq10.mp hi;rw [zq1];have:=Am p (xs.take i);rw [dE] at this;omega
theorem mG{J:It}(p:V->Bool)(f:V->V)(hz:xs.length<=sizeLine)(hacc:H1 acc=none)
 (hJ:∀(Pv:Nat->List V->Hp->Prop),Pv 0 [] (upd H1 acc (.lst []))->(∀i ys H,Pv i ys H->∃ys',H=upd H1 acc (.lst ys'))->
 (∀(i:Nat)x ys H os,xs[i]?=some x->os.length=1->Pv i ys H->c6 1 x (aM os ci σ) H fun σ1 H1=>(∃os',os'.length=1/\σ1=aM os' ci σ)/\tt σ1 H1 fun b H2=>
 if b=true then te σ1 H2 fun z H3=>H3 acc=some (.lst ys)/\ys.length<sizeLine/\Pv (i+1) (ys++[z]) (upd H3 acc (.lst (ys++[z]))) else Pv (i+1) ys H2)->
 (∀ys H,Pv xs.length ys H->Q H)->ck J (c6 1) tt te 1 ci σ acc Q (upd H1 acc (.lst [])))
 (hp:∀x∈xs,∀H Q',Same H1 H->Q' (p x) H->tt (aM [some x] ci σ) H Q') (hf:∀x∈xs,∀H Q',Same H1 H->p x=true->Q' (f x) H->te (aM [some x] ci σ) H Q')
 (q:Q (upd H1 acc (.lst ((xs.filter p).map f)))):ck J (c6 1) tt te 1 ci σ acc Q (upd H1 acc (.lst [])):=by
 refine hJ (fun i ys H=>ys=((xs.take i).filter p).map f/\H=upd H1 acc (.lst ys)) ⟨Jo,rfl⟩ (fun i ys H h=>⟨ys,h.2⟩) ?_ ?_
 ·rintro i x ys H os hi ho ⟨rfl,rfl⟩;have hm:=zq4 hi;refine vw (xs:=xs) (Pv:=fun i ys H=>ys=((xs.take i).filter p).map f/\H=upd H1 acc (.lst ys)) p f ho hi (fun Q' h=>hp x hm _ _ (Same.upd hacc) h) (fun Q' hb h=>hf x hm _ _ (Same.upd hacc) hb h) aj (oM hi hz) (fun hb=>?_) (fun hb=>?_)
  ·rw [cV hi,if_pos hb];exact ⟨rfl,by rw [Ce]⟩
  ·rw [cV hi,if_neg (by rw [hb];exact zq6),iL];exact ⟨rfl,rfl⟩
 ·rintro ys H ⟨rfl,rfl⟩;rw [eO];exact q
theorem xq(p:V->Bool)(f:V->V)(hz:xs.length<=sizeLine)(hl:SqL K H1 a xs)(hacc:H1 acc=none)
  (hp:∀x∈xs,∀H Q',Same H1 H->Q' (p x) H->tt (aM [some x] ci σ) H Q') (hf:∀x∈xs,∀H Q',Same H1 H->p x=true->Q' (f x) H->te (aM [some x] ci σ) H Q')
  (q:Q (upd H1 acc (.lst ((xs.filter p).map f)))):ck (Itl K a) (c6 1) tt te 1 ci σ acc Q (upd H1 acc (.lst [])):=
 mG p f hz hacc (fun Pv h0 hH hs hd=>eC Pv h0 (fun i ys H _ h=>by obtain ⟨ys',rfl⟩:=hH i ys H h;exact (Same.upd hacc).seq hl) hs hd) hp hf q
theorem ic(p:V->Bool)(f:V->V)(hz:xs.length<=sizeLine)(hl:SqT K H1 a xs)(hacc:H1 acc=none)
  (hp:∀x∈xs,∀H Q',Same H1 H->Q' (p x) H->tt (aM [some x] ci σ) H Q') (hf:∀x∈xs,∀H Q',Same H1 H->p x=true->Q' (f x) H->te (aM [some x] ci σ) H Q')
  (q:Q (upd H1 acc (.lst ((xs.filter p).map f)))):ck (Itt K a) (c6 1) tt te 1 ci σ acc Q (upd H1 acc (.lst [])):=
 mG p f hz hacc (fun Pv h0 hH hs hd=>Dh Pv h0 (fun i ys H _ h=>by obtain ⟨ys',rfl⟩:=hH i ys H h;exact (Same.upd hacc).seqT hl) hs hd) hp hf q
theorem xr{lo:Int}{n:Nat}(p:Int->Bool)(f:Int->V)(hz:n<=sizeLine)(hacc:H1 acc=none)
 (hp:∀i:Nat,i<n->∀H Q',Same H1 H->Q' (p (lo+i)) H->tt (aM [some (.int (lo+i))] ci σ) H Q') (hf:∀i:Nat,i<n->∀H Q',Same H1 H->p (lo+i)=true->Q' (f (lo+i)) H->te (aM [some (.int (lo+i))] ci σ) H Q')
 (q:Q (upd H1 acc (.lst (((List.range n).filter fun i:Nat=>p (lo+i)).map fun i:Nat=>f (lo+i))))):ck (Itr lo n) (c6 1) tt te 1 ci σ acc Q (upd H1 acc (.lst [])):=by
 have hx:∀(i:Nat),i<n->((List.range n).map fun k:Nat=>V.int (lo+k))[i]?=some (.int (lo+i)):=fun i hi=>by simp [hi]
 have key:=mG (xs:=(List.range n).map fun k:Nat=>V.int (lo+k)) (J:=Itr lo n) (tt:=tt) (te:=te) (ci:=ci) (σ:=σ) (acc:=acc) (Q:=Q) (H1:=H1)
  (fun x=>match x with | .int i=>p i | _=>false) (fun x=>match x with | .int i=>f i | _=>.non) (by simpa using hz) hacc
  (fun Pv h0 hH hs hd=>jQ Pv h0 (fun i ys H os hi ho h=>hs i _ ys H os (hx i hi) ho h) (fun ys H h=>hd ys H (by simpa using h)))
  (fun x hm H Q' sm h=>by obtain ⟨k,hk,rfl⟩:=zq21.mp hm;exact hp k (zq36.mp hk) H Q' sm h)
  (fun x hm H Q' sm hb h=>by obtain ⟨k,hk,rfl⟩:=zq21.mp hm;exact hf k (zq36.mp hk) H Q' sm hb h)
 refine key ?_;have e:(((List.range n).map fun k:Nat=>V.int (lo+k)).filter (fun x=>match x with | .int i=>p i | _=>false)).map (fun x=>match x with | .int i=>f i | _=>.non)=((List.range n).filter fun i:Nat=>p (lo+i)).map fun i:Nat=>f (lo+i):=by rw [List.filter_map,fM];rfl
 rw [e];exact q
end
end L2
end
namespace FB
open PySem L2
inductive Opd where
 |box (n:Str)
 |word (i:Int)
 deriving DecidableEq
def Opd.v:Opd->V
 | .box n=>.str n
 | .word i=>.int i
def Opd.reads:Opd->List Str
 | .box n=>[n]
 | .word _=>[]
inductive Deed where
 |tell (a:Opd)
 |copy (d:Str) (a:Opd)
 |op (f d:Str) (a b:Opd)
 deriving DecidableEq
def opsL:List Str:=["plus","less","and","or","xor","below","same"]
def Deed.vs:Deed->List V
 | .tell a=>[.str "tell",a.v]
 | .copy d a=>[.str "copy",.str d,a.v]
 | .op f d a b=>[.str f,.str d,a.v,b.v]
def Deed.fine:Deed->Prop
 | .op f _ _ _=>f∈opsL
 |_=>True
def Deed.reads:Deed->List Str
 | .tell a=>a.reads
 | .copy _ a=>a.reads
 | .op _ _ a b=>a.reads++b.reads
def Deed.writes:Deed->List Str
 | .tell _=>[]
 | .copy d _=>[d]
 | .op _ d _ _=>[d]
def Deed.tells:Deed->Bool
 | .tell _=>true
 |_=>false
def jm(one other:Deed):Option Int:=
 if one.tells=true/\other.tells=true then some 1
 else if ∃n∈one.writes,n∈other.reads\/n∈other.writes then some 1
 else if ∃n∈other.writes,n∈one.reads then some 0 else none
def mX:Option Int->V
 |none=>.non
 |some i=>.int i
end FB
section
open PySem PySem.Spec PyProof.Rows
namespace L2
section
variable {X:Cx}
theorem j4:∀{ns:List Str} {us:List Value},Vals (ns.map V.str) us->StrsAre us ns
 | [],_,r=>by cases r;exact .nil
 |n::ns,_,r=>by
  cases r with
  |cons r0 rr=>obtain ⟨t,rfl⟩:=r0;exact StrsAre.cons _ _ (j4 rr)
def CK(K:W.Frag):V->List V->Hp->VK->Prop:=fun x vs H Q=>∃(z:Str)(p:Addr)(ys:List Str),x=.str z/\vs=[.ref p]/\SqL K H p (ys.map V.str)/\(ys.map (·.length)).sum+ys.length * z.length<=16777216/\Q (.str (Txt.join z ys)) H
theorem Bd:MtR X "str.join" (CK X.K):=by
 intro pins s σ H x vs v us Q I rx rv h;obtain ⟨z,p,ys,rfl,rfl,hq,hz,q⟩:=h;obtain ⟨t,rfl⟩:=rx;obtain ⟨u,rfl,ru⟩:=rv.one
 cases ru
 obtain ⟨its,r,pl,_⟩:=I.list hq;exact join_list pl.isList (by simpa using j4 r) hz fun t' k=>zAA (.str _) H (I.tok _) ⟨_,rfl⟩ q
theorem uM{pins:List (Addr×Obj)}{σ:St}{H:Hp}{s:Shared}(I:Inv X pins σ H s):(s.heap.objs.size==sysModules)=false:=by have:=I.big;simp only [beq_eq_false_iff_ne,ne_eq];exact fun e=>by rw [e] at this;exact absurd this (nJ _)
theorem mE:eA X (.type "dict") (fun xs H Q=>∃p kvs,xs=[.ref p]/\Rd H p (.dK kvs)/\∀l,H l=none->Q (.ref l) (upd H l (.dK kvs))):=by
 intro pins s σ H xs us Q I r h;obtain ⟨p,kvs,rfl,hq,q⟩:=h;obtain ⟨u,rfl,rx⟩:=gU r
 cases rx
 obtain ⟨z,hd,vs,rel,dd⟩:=gO I.hok hq;refine kt_call_dict hd dd (by rw [<- rel.length];exact z) fun h' hm hs=>?_;have hk:∀b o,s.heap.get? b=some o->h'.get? b=some o:=fun b o e=>(hs.2 b (cD (zq7 e))).trans (cy _ e);exact zAA (.ref s.heap.objs.size) _ (I.laid (t':=s.toks) hk (zq0 _) (qX z (uM I) rel hm)) rfl (q _ (I.hok.fresh (zq0 _)))
def E2:V->List V->Hp->VK->Prop:=fun x vs H Q=>∃p kvs,x=.ref p/\vs=[]/\Rd H p (.dK kvs)/\∀l,H l=none->Q (.ref l) (upd H l (.dK kvs))
def B4(ka kb:List (Key×V)):Bool:=ka.length==kb.length&&ka.all fun kv=>match bI kb kv.1 with | none=>false | some y=>eqV kv.2 y
theorem Im{kvs:List (Key×V)}{vs:List (Key×Value)}(r:KV kvs vs)(k:Key):(bI kvs k=none/\valueAt vs k=none)\/∃v u,bI kvs k=some v/\valueAt vs k=some u/\RelV v u:=by
 induction r with
 |nil=>exact .inl ⟨rfl,rfl⟩
 | @cons a b l1 l2 h t ih=>
  obtain ⟨h1,h2⟩:=h
  by_cases e:a.1=k
  ·refine .inr (zAA a.2 b.2 (c9 e) ?_ h2);unfold valueAt;rw [List.find?_cons];simp [h1.symm.trans e]
  ·rw [bW e];have e':valueAt (b::l2) k=valueAt l2 k:=by unfold valueAt;rw [List.find?_cons];have:¬b.1=k:=fun z=>e (h1.trans z);simp [this]
   rw [e'];exact ih
theorem tJ{A:Around}{s:Shared}{kb:List (Key×V)}{wb:List (Key×Value)}(rb:KV kb wb)(fb:kb.all (fun kv=>bH kv.2)=true):∀{ka:List (Key×V)} {wa:List (Key×Value)},KV ka wa->ka.all (fun kv=>bH kv.2)=true->
  W.KeqHits A s wb wa (ka.all fun kv=>match bI kb kv.1 with | none=>false | some y=>eqV kv.2 y)
 |_,_,.nil,_=>.nil
 |a::ka,b::wa,.cons ⟨h1,h2⟩ t,hf=>by
  rw [sC,dF] at hf;rw [sC];rcases Im rb a.1 with ⟨e1,e2⟩ | ⟨v,u,e1,e2,r⟩
  ·rw [e1];obtain ⟨k,y⟩:=b;have hk:a.1=k:=h1;subst hk;rw [Ac];exact .miss e2
  ·rw [e1];obtain ⟨k,y⟩:=b;have hk:a.1=k:=h1;subst hk;refine .hit e2 ?_ (tJ rb fb t hf.2);have fv:bH v=true:=by
    have hm:∃kv∈kb,kv.2=v:=by unfold bI at e1;obtain ⟨kv,hkv,e⟩:=zq27.mp e1;exact zn kv (uX hkv) e
    obtain ⟨kv,hm,rfl⟩:=hm;exact zq37.mp fb kv hm
   exact rc h2 r hf.1 fv
def BH:R2:=fun x y H Q=>∃a b ka kb,x=.ref a/\y=.ref b/\Rd H a (.dK ka)/\Rd H b (.dK kb)/\ka.all (fun kv=>bH kv.2)=true/\kb.all (fun kv=>bH kv.2)=true/\Q (.bl (B4 ka kb)) H
theorem w6(hu:X.A.units<cLine):OpR X (compareOp .Eq) BH:=by
 intro pins s σ H x y v u Q I rx ry h;obtain ⟨a,b,ka,kb,rfl,rfl,ha,hb,fa,fb,q⟩:=h
 cases rx;cases ry
 obtain ⟨za,hda,va,ra,da⟩:=gO I.hok ha;obtain ⟨zb,hdb,vb,rb,db⟩:=gO I.hok hb;refine W.keq_eq hda hdb da db hu (fun _=>tJ rb fb ra fa) ?_;rw [<- ra.length,<- rb.length];exact zAA (.bl _) H I rfl q
theorem vv{ka:List (Key×V)}(hn:(ka.map (·.1)).Nodup)(hf:ka.all (fun kv=>bH kv.2)=true):B4 ka ka=true:=by
 unfold B4;rw [beq_self_eq_true,AH,zq37];intro kv hm;have e:bI ka kv.1=some kv.2:=by
  clear hf
  induction ka with
  |nil=>cases hm
  |cons p r ih=>
   rw [dh,zq41] at hn;rcases zq5.mp hm with rfl | hm
   ·exact c9 rfl
   ·rw [bW (fun z=>hn.1 (by rw [z];exact zq21.mpr (zn kv hm rfl)))];exact ih hn.2 hm
 rw [e];exact oJ (zq37.mp hf kv hm)
end
end L2
namespace L2
variable {H:Hp} {sc:Scope} {σ:St}
section
variable {X:Cx} {x:Str} {p pos:Pos} {e:Expr} {es:List Expr} {t:TA} {id T:String} {r:List V->Hp->VK->Prop}
theorem qv(i:Nat){x:Str}{pos:Pos}(hv:Vis X.env.scope x)(hN:X.N[i]?=some x:=by rfl)(hd:(x==("__debug__":Str))=false:=by kernel_rfl) (hcd:(x==("__classdict__":Str))=false:=by kernel_rfl):PE X (.Name x pos) (EZ i):=DU hN hv hd hcd
theorem vl{x:Str}(h:sc.names.lookup x=some .local:=by kernel_rfl):Vis sc x:=.inl h
theorem vc{x:Str}(h:sc.names.lookup x=some .cell:=by kernel_rfl):Vis sc x:=.inr (.inl h)
theorem ll{x:Str}(h:sc.names.lookup x=some .local:=by kernel_rfl):Loc sc x:=.inl h
theorem lc{x:Str}(h:sc.names.lookup x=some .cell:=by kernel_rfl):Loc sc x:=.inr h
theorem gl{X:Cx}{x:Str}(h:X.env.scope.names.lookup x=some .globalImplicit:=by kernel_rfl):Gl X x:=h
theorem mT{x:Str}(h:(x==("__name__":Str))=false:=by kernel_rfl):x≠"__name__":=fun z=>by subst z;exact absurd h Jk
theorem yH{k:Nat}{f:Addr}{fd:FuncData}{ps:List Str}{sp:Sp}{x:Str}{st:Stmt}{p pos:Pos}{e:Expr}{es:List Expr}{t:TA}(D:b8 X.K X.mg x st ps f fd)(G:FnOk X.prog X.w X.K X.mg X.base CX0 k f fd ps sp)(hr:Room k X.A)
  (ha:PA X (e::es) t) (hg:Gl X x) (hdb:(x==("__debug__":Str))=false:=by kernel_rfl) (he:starEach (e::es) X.env=(false,eval e X.env)::starEach es X.env:=by rfl) (hpl:(backTo pos (starEach es X.env)).any (·.1)=false:=by rfl) :
  PE X (.Call (.Name x p) (e::es) [] pos) (qA sp [] E0 t):=yx D G hr ha hg hdb he hpl
def qV:Expr->Option V
 | .Constant (.int i) _ _=>some (.int i)
 | .Constant (.str x) _ _=>some (.str x)
 | .Constant (.bool b) _ _=>some (.bl b)
 | .Constant .none _ _=>some .non
 |_=>none
def jt:List Expr->Option (List V)
 | []=>some []
 |e::es=>(qV e).bind fun v=>(jt es).map fun vs=>v::vs
def tVs(vs:List V):TA:=fun _ H Q=>Q vs H
theorem vk{e:Expr}{v:V}(h:qV e=some v):PE X e (tC v)/\∀es,starEach (e::es) X.env=(false,eval e X.env)::starEach es X.env:=by
 unfold qV at h
 split at h
 ·cases h;exact ⟨yA,fun _=>rfl⟩
 ·cases h;exact ⟨yE,fun _=>rfl⟩
 ·cases h;exact ⟨CJ,fun _=>rfl⟩
 ·cases h;exact ⟨yD,fun _=>rfl⟩
 ·cases h
theorem pF:∀{es:List Expr} {vs:List V},jt es=some vs->PA X es (tVs vs)
 | [],_,h=>by cases h;exact yv
 |e::es,vs,h=>by unfold jt at h;obtain ⟨v,h1,h2⟩:=Option.bind_eq_some_iff.mp h;obtain ⟨ws,h3,h4⟩:=zq27.mp h2;subst h4;obtain ⟨p1,p2⟩:=vk (X:=X) h1;exact tX p1 (pF h3) (p2 es)
theorem IE{vs:List V}{Z:List V->Hp->Prop}:tVs vs σ H Z=Z vs H:=rfl
theorem Ex{z:Str}{p:Addr}{K:W.Frag}{Q:VK}:CK K (.str z) [.ref p] H Q=∃ys:List Str,SqL K H p (ys.map V.str)/\(ys.map (·.length)).sum+ys.length * z.length<=16777216/\Q (.str (Txt.join z ys)) H:=propext ⟨by rintro ⟨_,_,ys,e1,e2,h⟩;cases e1;cases e2;exact ⟨ys,h⟩,by rintro ⟨ys,h⟩;exact zAO _ _ ys rfl rfl h⟩
theorem C3{z:Str}{K:W.Frag}:tyV K "str" (.str z) H=True:=eq_true (show ("str":String)="str" from rfl)
theorem BN{Q:VK}:zO σ H Q=∀p,H p=none->Q (.ref p) (upd H p (.dK [])):=rfl
theorem Ec{td ty tv:TE}{D:dm}:zt td ty tv D σ H=tv σ H fun v H1=>td σ H1 fun x H2=>ty σ H2 fun y H3=>∃a H4,x=.ref a/\DPut H3 a y v H4/\D.nx σ H4:=rfl
theorem Ei{c:Addr}{Z:Addr->Hp->Prop}:(∃a H4,V.ref c=.ref a/\Z a H4)=∃H4,Z c H4:=propext ⟨by rintro ⟨_,H4,e,q⟩;cases e;exact ⟨H4,q⟩,by rintro ⟨H4,q⟩;exact zAD c H4 rfl q⟩
theorem Em{to ti:TE}{ts:x8}{v:V}{Q:St->Hp->Prop}:Do to ti ts v σ H Q=to σ H fun o H1=>ti σ H1 fun i H2=>ts o i v H2 fun H3=>Q σ H3:=rfl
def EX(t u:TS):TS:=fun D σ H=>∃Mid:St->Hp->Prop,t {D with nx:=Mid} σ H/\∀σ' H',Mid σ' H'->u D σ' H'
theorem yW{ta tb:TS}{D:dm}:EX ta tb D σ H=∃Mid:St->Hp->Prop,ta {D with nx:=Mid} σ H/\∀σ' H',Mid σ' H'->tb D σ' H':=rfl
end
end L2
namespace L2
variable {dx:Addr}
structure KlsAt(K:W.Frag)(mg:Str->Option Value)(x:Str)(C:Addr):Prop where
 cl:Cls K C
 mks:W.makesIn K C=true
 kp:W.keepIn K (.ref C)=true
 M:mg x=some (.ref C)
structure bz(K:W.Frag)(C:Addr)(m qual:Str)(st:Stmt)(ps:List Str)(f:Addr)(fd:FuncData):Prop where
 F:Fun K m qual st f fd
 B:Binds K fd ps []
 M:vg K C m f
theorem KlsAt.make{K:W.Frag}{mg:Str->Option Value}{x qual:Str}{C f:Addr}{st:Stmt}{ps:List Str}{fd:FuncData}(c:KlsAt K mg x C)(m:bz K C "__init__" qual st ps f fd):Mk K C f:=⟨c.mks,m.M.at_,m.M.fn,c.kp⟩
section
variable {X:Cx} {k:Nat} {f C:Addr} {fd:FuncData} {ps:List Str} {sp:Sp} {x m qual:Str} {st:Stmt} {p pos apos:Pos} {e o:Expr} {es:List Expr} {ta:TE} {t:TA}
theorem yK(c:KlsAt X.K X.mg x C)(D:bz X.K C "__init__" qual st ps f fd) (G:FnOk X.prog X.w X.K X.mg X.base CX0 k f fd ps sp) (hr:Room (k+1) X.A)
  (ha:PA X (e::es) t) (hg:Gl X x) (hdb:(x==("__debug__":Str))=false:=by kernel_rfl) (he:starEach (e::es) X.env=(false,eval e X.env)::starEach es X.env:=by rfl) (hpl:(backTo pos (starEach es X.env)).any (·.1)=false:=by rfl) :
  PE X (.Call (.Name x p) (e::es) [] pos) (kL C sp [] E0 t):=BE (c.make D) G hr hg c.M D.B .nil pG ha hdb he hpl
theorem yL{pl:Sem Bool}(c:Cls X.K C)(D:bz X.K C m qual st ps f fd)(G:FnOk X.prog X.w X.K X.mg X.base CX0 k f fd ps sp)(hr:Room k X.A)(he:PE X o ta)(ha:PA X (e::es) t)
  (hst:starEach (e::es) X.env=(false,eval e X.env)::starEach es X.env:=by rfl) (hpl:(backTo pos (starEach es X.env)).any (·.1)=false:=by rfl)
  (ht:eval (.Call (.Attribute o m apos) (e::es) [] pos) X.env=(do
   let ov <- eval o X.env
   standAt apos.atName
   let (f,first) <- holding [ov] (getMethod ov m pl)
   callWith pos f first (backTo pos (starEach (e::es) X.env)) (backToKw pos (keywordEach [] X.env))):=by rfl) :
  PE X (.Call (.Attribute o m apos) (e::es) [] pos) (iH C m sp [] E0 ta t):=tY he c D.M G hr D.B .nil pG ha hst hpl ht
theorem wl{pl:Sem Bool}(c:Cls X.K C)(D:bz X.K C m qual st ps f fd)(G:FnOk X.prog X.w X.K X.mg X.base CX0 k f fd ps sp)(hr:Room k X.A)(he:PE X o ta)
  (ht:eval (.Call (.Attribute o m apos) [] [] pos) X.env=(do
   let ov <- eval o X.env
   standAt apos.atName
   let (f,first) <- holding [ov] (getMethod ov m pl)
   callWith pos f first (backTo pos (starEach [] X.env)) (backToKw pos (keywordEach [] X.env))):=by rfl) :
  PE X (.Call (.Attribute o m apos) [] [] pos) (iH C m sp [] E0 ta qB):=yC he c D.M G hr D.B .nil pG ht
end
section
variable {H:Hp} {Q:VK} {σ:St} {D:dm} {K:W.Frag}
def x6(K:W.Frag)(x:V)(f:Str)(y:V)(H:Hp)(Z:Hp->Prop):Prop:=∃a C dx fs,x=.ref a/\H a=some (.ins C dx fs)/\Cls K C/\NoAttr K C f/\fs.length<1000/\Z (upd H a (.ins C dx (di f y fs)))
def gW(K:W.Frag)(x:V)(f:Str)(H:Hp)(Q:VK):Prop:=∃a C dx fs v,x=.ref a/\H a=some (.ins C dx fs)/\Cls K C/\NoAttr K C f/\fs.lookup f=some v/\Q v H
def jH(C:Addr)(m:Str)(x:V)(H:Hp)(Z:Prop):Prop:=∃a dx fs,x=.ref a/\H a=some (.ins C dx fs)/\fs.lookup m=none/\Z
def F5(C:Addr)(sp:Sp)(vs:List V)(H:Hp)(Q:VK)(E:XK):Prop:=∀x dx,H x=none->H dx=none->dx≠x->sp (.ref x::vs) (upd (upd H dx (.own x)) x (.ins C dx [])) (fun v H2=>v=.non/\Q (.ref x) H2) E
theorem EO{ta tv:TE}{f:Str}:Gm K ta tv f D σ H=tv σ H fun y H1=>ta σ H1 fun x H2=>x6 K x f y H2 (D.nx σ):=rfl
theorem Eo{ta:TE}{f:Str}:Ih K ta f σ H Q=ta σ H fun x H1=>gW K x f H1 Q:=rfl
theorem EI{C:Addr}{m:Str}{sp:Sp}{E:XK}{ta:TE}{t:TA}:iH C m sp [] E ta t σ H Q=ta σ H fun x H1=>jH C m x H1 (t σ H1 fun vs H2=>sp (x::vs) H2 Q E):=by unfold iH jH;simp only [List.append_nil]
theorem EH{C:Addr}{sp:Sp}{E:XK}{t:TA}:kL C sp [] E t σ H Q=t σ H fun vs H1=>F5 C sp vs H1 Q E:=by unfold kL F5;simp only [List.append_nil]
theorem fu{p C:Addr}{fs:List (Str×V)}{f:Str}{y:V}{Z:Hp->Prop}(e:H p=some (.ins C dx fs))(c:Cls K C)(n:NoAttr K C f)(l:fs.length<1000)(h:Z (upd H p (.ins C dx (di f y fs)))):x6 K (.ref p) f y H Z:=zAX p C dx fs rfl e c n l h
theorem cn{p C:Addr}{fs:List (Str×V)}{f:Str}{v:V}(e:H p=some (.ins C dx fs))(c:Cls K C)(n:NoAttr K C f)(l:fs.lookup f=some v)(h:Q v H):gW K (.ref p) f H Q:=zAV p C dx fs v rfl e c n l h
theorem bB{p C:Addr}{fs:List (Str×V)}{m:Str}{Z:Prop}(e:H p=some (.ins C dx fs))(l:fs.lookup m=none)(h:Z):jH C m (.ref p) H Z:=zAH p dx fs rfl e l h
end
end L2
namespace L2
section
variable {K:W.Frag} {h:Heap} {mg:Str->Option Value}
abbrev fnS (x qual:Str) (st:Stmt) (kV doc pm:Value) (an:Option Addr) (cdv ct:Value):FuncData:=W.fnOf x qual (dJ st) (dz st) (az st) .none kV doc pm an cdv ct
abbrev qR (x qual:Str) (st:Stmt) (ps:List Str):Prop:=∀(kV doc pm:Value)(an:Option Addr)(cdv ct:Value)(us:List Value),us.length=ps.length->bindArgs (fnS x qual st kV doc pm an cdv ct) ⟨us,[]⟩=pure (ps.zip us)
theorem bU{x:Str}{st:Stmt}{ps:List Str}{f:Addr}{oc:Value}{od an:Option Addr}{osl:Array (Option Value)}{kV doc pm cdv ct:Value}(X:K.In h)(G:h.Ns mainGlobals mg)(a:W.nsIn K mainGlobals x=some (some (.ref f)))
  (l:K.lookup f=some ⟨oc,od,.func (W.fnOf x x (dJ st) (dz st) (az st) .none kV doc pm an cdv ct),osl⟩) (c:W.codeIn K cdv x=true) (k:W.keepIn K (.ref f)=true) (b:qR x x st ps):b8 K mg x st ps f (W.fnOf x x (dJ st) (dz st) (az st) .none kV doc pm an cdv ct):=
 ⟨mI l c k,(mI l c k).binds b,W.mg_of X G a⟩
theorem eg{C:Addr}{x qual:Str}{st:Stmt}{ps:List Str}{f:Addr}{oc:Value}{od an:Option Addr}{osl:Array (Option Value)}{kV doc pm cdv ct:Value}(a:W.findIn K (.ref C) x=some (some (.ref f)))(i:W.isFn K (.ref f)=true)
  (l:K.lookup f=some ⟨oc,od,.func (W.fnOf x qual (dJ st) (dz st) (az st) .none kV doc pm an cdv ct),osl⟩) (c:W.codeIn K cdv qual=true) (k:W.keepIn K (.ref f)=true) (b:qR x qual st ps):bz K C x qual st ps f (W.fnOf x qual (dJ st) (dz st) (az st) .none kV doc pm an cdv ct):=
 ⟨mI l c k,(mI l c k).binds b,⟨a,i,k⟩⟩
theorem xt{x:Str}{C:Addr}(X:K.In h)(G:h.Ns mainGlobals mg)(a:W.nsIn K mainGlobals x=some (some (.ref C)))(h1:W.plainGet K C Str.empty=true)(h2:W.hasDictIn K C=true)(h3:W.plainOver K C=true)
  (h4:W.findIn K (.ref C) "__setattr__"=some (some (.builtin "object.__setattr__"))) (h5:W.makesIn K C=true) (h6:W.keepIn K (.ref C)=true):KlsAt K mg x C:=⟨⟨h1,h2,h3,h4⟩,h5,h6,W.mg_of X G a⟩
end
section
variable {x qual p q r s t u:Str} {st:Stmt}
theorem bn1(h:∀kV doc pm an cdv ct a,bindArgs (fnS x qual st kV doc pm an cdv ct) ⟨[a],[]⟩=pure [(p,a)]):qR x qual st [p]:=fun kV doc pm an cdv ct us hl=>by
 match us,hl with
 | [a],_=>exact h kV doc pm an cdv ct a
theorem bn2(h:∀kV doc pm an cdv ct a b,bindArgs (fnS x qual st kV doc pm an cdv ct) ⟨[a,b],[]⟩=pure [(p,a),(q,b)]):qR x qual st [p,q]:=fun kV doc pm an cdv ct us hl=>by
 match us,hl with
 | [a,b],_=>exact h kV doc pm an cdv ct a b
theorem bn3(h:∀kV doc pm an cdv ct a b c,bindArgs (fnS x qual st kV doc pm an cdv ct) ⟨[a,b,c],[]⟩=pure [(p,a),(q,b),(r,c)]):qR x qual st [p,q,r]:=fun kV doc pm an cdv ct us hl=>by
 match us,hl with
 | [a,b,c],_=>exact h kV doc pm an cdv ct a b c
theorem bn4(h:∀kV doc pm an cdv ct a b c d,bindArgs (fnS x qual st kV doc pm an cdv ct) ⟨[a,b,c,d],[]⟩=pure [(p,a),(q,b),(r,c),(s,d)]):qR x qual st [p,q,r,s]:=fun kV doc pm an cdv ct us hl=>by
 match us,hl with
 | [a,b,c,d],_=>exact h kV doc pm an cdv ct a b c d
theorem bn5(h:∀kV doc pm an cdv ct a b c d e,bindArgs (fnS x qual st kV doc pm an cdv ct) ⟨[a,b,c,d,e],[]⟩=pure [(p,a),(q,b),(r,c),(s,d),(t,e)]):qR x qual st [p,q,r,s,t]:=fun kV doc pm an cdv ct us hl=>by
 match us,hl with
 | [a,b,c,d,e],_=>exact h kV doc pm an cdv ct a b c d e
end
end L2
namespace L2
section
variable {X:Cx}
end
end L2
namespace L2
theorem tK:∀{ns:List Int} {its:List Value},Vals (ns.map V.int) its->IntsAre its ns
 | [],_,.nil=>.nil
 |n::ns,_,.cons h t=>by obtain ⟨tk,rfl⟩:=h;exact .cons _ _ (tK t)
section
variable {X:Cx}
def uc(K:W.Frag):List V->Hp->VK->Prop:=fun xs H Q=>∃(a:Addr)(ns:List Int),xs=[.ref a]/\SqL K H a (ns.map V.int)/\ns.length<64/\∀(l:Addr)(ns':List Int),H l=none->ns'.Perm ns->ns'.Pairwise (·<=·)->Q (.ref l) (upd H l (.lst (ns'.map V.int)))
theorem ou:eA X (.builtin "sorted") (uc X.K):=by
 intro pins s σ H xs us Q I r h;obtain ⟨a,ns,rfl,hq,h64,q⟩:=h;obtain ⟨u,rfl,ru⟩:=gU r
 cases ru
 obtain ⟨its,rv,pl,_⟩:=I.list hq;have hl:=rv.length;rw [zq1] at hl;refine sorted_ints (vs:=its) pl.isList (tK rv) Jn fun out ns' a1 a2 a3=>?_;obtain ⟨e,he⟩:=sortedAll_at s.heap its out;have hk:∀b o,s.heap.get? b=some o->(sortedAll s.heap its out).get? b=some o:=fun _ _=>sortedAll_old;refine zAA (.ref (s.heap.objs.size+1)) _ (I.laid (t':=s.toks) hk (qK _) (show ObjOk X.prog X.w _ (sortedAll s.heap its out) _ (.lst (ns'.map V.int)) from ⟨?_,zAD out.toList e (j3 a1) ?_⟩)) rfl (q _ _ (I.hok.fresh (qK _)) a2 a3)
 ·rw [zq1,a2.length_eq,sizeLine_eq];omega
 ·rw [Array.toArray_toList];exact he
theorem om:∀{bs:List Bool} {its:List Value},Vals (bs.map V.bl) its->its=bs.map Value.bool
 | [],_,.nil=>rfl
 |b::bs,_,.cons h t=>by have e:_=Value.bool b:=h;rw [e,om t];rfl
theorem wz{bs:List Bool}:(List.range bs.length).any (fun i=>bs.getD i true)=bs.any id:=by
 rw [sy,zq69,zq69]
 constructor
 ·rintro ⟨i,hi,h⟩;have hi:=zq36.mp hi;rw [fN,zq8 hi] at h;exact zn _ (lu hi) h
 ·rintro ⟨b,hb,h⟩;obtain ⟨i,hi,rfl⟩:=List.mem_iff_getElem.mp hb;refine zn i (zq36.mpr hi) ?_;rw [fN,zq8 hi];exact h
def Fx(K:W.Frag):List V->Hp->VK->Prop:=fun xs H Q=>∃(a:Addr)(bs:List Bool),xs=[.ref a]/\SqL K H a (bs.map V.bl)/\Q (.bl (bs.any id)) H
theorem qF{P:Program}{w:World}{A:Around}{bs:List Bool}:TruthOf P w A (fun i v=>(bs.map Value.bool).toArray[i]?=some v) (fun i=>bs.getD i true):=by intro i v s Q E hv q;rw [uY,cf] at hv;obtain ⟨b,hb,rfl⟩:=zq27.mp hv;replace q:Q (bs.getD i true) s:=q;rw [fN,hb] at q;exact wpAny_truthy_bool q
theorem oq(hc:X.calm=true):eA X (.builtin "any") (Fx X.K):=by
 intro pins s σ H xs us Q I r h;obtain ⟨a,bs,rfl,hq,q⟩:=h;obtain ⟨u,rfl,ru⟩:=gU r
 cases ru
 obtain ⟨its,rv,pl,_⟩:=I.list hq;obtain rfl:=om rv;obtain ⟨o,ho,ro⟩:=pl.isList;have W:=Walks.list (prog:=X.prog) (w:=X.w) (A:=X.A.in1) (I.ok.hd hc) s.heap.objs.size a (cD (zq7 ho)) (bs.map Value.bool).toArray;refine call_any_walk (wpAny_pyIter_list pl.isList (zAY s.heap.objs.size _ _ _ _ _ (fun i=>bs.getD i true) (zAJ rfl W ⟨zAC _ (dy _ rfl) rfl rfl,pl.isList.push _⟩ qF fun h' tk hk=>?_)));have e:(bs.map Value.bool).toArray.size=bs.length:=by simp
 rw [e,wz];exact zAA (.bl _) H (I.kept (t':=tk) fun b ob hb=>hk b ob (fun z=>nJ _ (by have:=zq7 hb;rw [zq2.mp z] at this;exact this)) (cy _ hb)) rfl q
end
end L2
namespace L2
open AutoSeq1 (wpAny_loadPart')
theorem um:mroOf (.type "reversed")=pure [.type "reversed",.type "object"]:=by rw [mroOf_type];kernel_rfl
theorem C5:typeLookup (.type "reversed") "__new__"=pure (some (.builtin "reversed.__new__")):=by rw [typeLookup_type,builtinLookup_eq_fast];kernel_rfl
theorem zm:Bind.madeBy (.type "reversed")=pure (some "reversed.__new__"):=madeBy_type um C5 Jk
theorem C6:isSubtype (.type "list_reverseiterator") (.type "reversed")=pure false:=by rw [isSubtype_type];kernel_rfl
theorem zo:isSubtype (.type "reversed") (.type "reversed")=pure true:=by rw [isSubtype_type];kernel_rfl
theorem wB:entryFor table "reversed.__new__"=some Builtin.«reversed.__new__»:=entryFor_of_tree Jl
theorem hE(l:Addr)(items:Array Value)(n:Nat)(dct:Option Addr)(sl:Array (Option Value)):
  Meets (Builtin.«reversed.__new__» ⟨[.type "reversed",.ref l],[]⟩) (fun _ R s=>s.heap.get? l=some {cls:=.type "list",dict:=dct,data:=.seq items n,slots:=sl}/\
   R (.ok (.ret (.ref s.heap.objs.size))) {s with heap:=s.heap.push {cls:=.type "list_reverseiterator",data:=.fields #[.ref l,rawInt (((items.size:Nat):Int)-1)]}}):=
 .of_wp fun prog w A R s h=>by
  obtain ⟨hp,g,d,tk,os⟩:=s;obtain ⟨hl,h⟩:=h;have hsub:=zo;have hL:Heap.IsList (Shared.heap ⟨hp,g,d,tk,os⟩) l items:=zAC _ hl rfl ⟨n,rfl⟩
  wp_walk using wpAny_loadPart' hl
  refine wpAny_of_eq PySem.F.slot_list_reversed.lookup ?_;refine wpAny_bind ?_;unfold bindSpecial;refine wpAny_bind (wpAny_of_eq PySem.F.type_list_reversed ?_);rw [if_pos Jm];refine wpAny_pure ?_;show wpAny _ _ (if (Value.builtin "list.__reversed__"==Value.none)=true then _ else _) _ _ _;rw [if_neg Jm];refine wpAny_bind (wpAny_rule ?_);refine wpAny_bind ?_;show wpAny (model prog w) A.in1 (call (.builtin "list.__reversed__") [.ref l]) _ _ _;refine wpAny_call_entry PySem.F.slot_list_reversed hL.typeIs PySem.F.entry_list_reversed ?_ (PySem.F.args_list_reversed_1 _)
  wp_walk using wpAny_loadPart' hl
  exact zn _ rfl (wpAny_pure (zn _ rfl h))
def IsRev(h:Heap)(it l:Addr)(k:Int):Prop:=∃o,h.get? it=some o/\o.cls=.type "list_reverseiterator"/\o.data=.fields #[.ref l,.int k 0]
section
variable {prog:Program} {w:World} {A:Around} {E:Value->Shared->Prop} {s:Shared}
theorem dX{l:Addr}{items:Array Value}{Q:Value->Shared->Prop}(hL:s.heap.IsList l items)
  (h:∀h',IsRev h' s.heap.objs.size l (((items.size:Nat):Int)-1)->h'.objs.size=s.heap.objs.size+1->(∀b o,s.heap.get? b=some o->h'.get? b=some o)->Q (.ref s.heap.objs.size) {s with heap:=h'}) :
  wpAny (model prog w) A (call (.type "reversed") [.ref l]) Q E s:=by
 obtain ⟨⟨c,dct,dt,sl⟩,hl,hc,n,hd⟩:=hL;replace hc:c=.type "list":=hc;replace hd:dt=.seq items n:=hd;subst hc hd;have hmro:=um;have hmade:=zm;have hsub:=C6;refine wpAny_call (codeAny_of_tree ?_);show wpAny _ _ (callAny (.type "reversed") _) _ _ _;refine wpAny_pure ⟨Code.quiet_builtin _ Jk,codeAny_builtin F.entry_type_call ?_⟩;rw [Around.under_plain (weight_type_call_type "reversed" [.ref l] []) (units_type_call_type "reversed" [.ref l] [])];have h1:(Value.type "reversed"==Value.type "type")=false:=by decide +kernel
 have h2:((Manifest.find? "reversed").bind (·.mro.findSome? fun t=>(Manifest.find? t).bind fun b=>if b.noNew then some true else if b.attrs.any (·.1=="__new__") then some false else none)).getD false=false:=by decide +kernel
 have hct:checkTypeCall "reversed" ⟨[.ref l],[]⟩=pure ():=by kernel_rfl
 have hcn:checkBuiltinCall "reversed.__new__" ⟨[.type "reversed",.ref l],[]⟩=pure ():=by kernel_rfl
 repeat (any_goals (first | assumption | wp_step))
 have key:=hE l items n dct sl prog w A.in1 (wants (fun v s'=>v=.ref s.heap.objs.size/\s'={s with heap:=s.heap.push {cls:=.type "list_reverseiterator",data:=.fields #[.ref l,rawInt (((items.size:Nat):Int)-1)]}}) E) s (zAB hl rfl rfl);refine codeAny_mono (codeAny_call_builtin Jk wB (wpAny_of_eq hcn key)) fun r s₁ hr=>?_
 cases r with
 |error e=>exact hr
 |ok fl=>
  cases fl with
  |ret obj=>
   obtain ⟨rfl,rfl⟩:=hr;have hT:Shared.TypeIs {s with heap:=s.heap.push {cls:=.type "list_reverseiterator",data:=.fields #[.ref l,rawInt (((items.size:Nat):Int)-1)]}} (.ref s.heap.objs.size) "list_reverseiterator":=zn _ (dy _ rfl) rfl
   repeat (any_goals (first | assumption | wp_step))
   exact h _ (zAC _ (dy _ rfl) rfl rfl) (lj ..) (fun b o x=>cy _ x)
  |_=>exact hr.elim
end
end L2
namespace L2
variable {it l:Addr}
theorem slot_rev_next:Slot "list_reverseiterator" "__next__" "list_reverseiterator.__next__":=
 .of (owner:="list_reverseiterator") (n:="__next__") (by rw [typeLookup_type,builtinLookup_eq_fast];kernel_rfl) Jk Jk Jk
  (by first | exact .inl Jk | exact .inr Jk) (by rw [isSubtype_type];kernel_rfl)
theorem gR:Slot "list_reverseiterator" "__iter__" "list_reverseiterator.__iter__":=
 .of (owner:="list_reverseiterator") (n:="__iter__") (by rw [typeLookup_type,builtinLookup_eq_fast];kernel_rfl) Jk Jk Jk
  (by first | exact .inl Jk | exact .inr Jk) (by rw [isSubtype_type];kernel_rfl)
theorem fS:entryFor table "list_reverseiterator.__next__"=some Builtin.«list_reverseiterator.__next__»:=entryFor_of_tree Jl
theorem jW:entryFor table "list_reverseiterator.__iter__"=some Builtin.«dict_keyiterator.__iter__»:=
 entryFor_alias (id':="dict_keyiterator.__iter__") Jl (by first | rfl | decide +kernel | (unfold String.splitOn;simp +decide [String.splitOnAux])) Jk Jl
theorem gN(a:Value):argsOk "list_reverseiterator.__next__" ⟨[a],[]⟩:=by unfold argsOk;kernel_rfl
theorem kR(a:Value):argsOk "list_reverseiterator.__iter__" ⟨[a],[]⟩:=by unfold argsOk;kernel_rfl
theorem IsRev.typeIs{s:Shared}{k:Int}(x:IsRev s.heap it l k):s.TypeIs (.ref it) "list_reverseiterator":=let ⟨o,ho,hc,_⟩:=x;(zn o ho hc)
section
variable {prog:Program} {w:World} {A:Around} {E:Value->Shared->Prop} {s:Shared}
theorem fE{k:Int}{Q:Value->Shared->Prop}(hi:IsRev s.heap it l k)(h:Q (.ref it) s):wpAny (model prog w) A (pyIter (.ref it)) Q E s:=by refine wpAny_pyIter_slot hi.typeIs gR (wpAny_call_entry gR hi.typeIs jW ?_ (kR _));show wpAny _ _ (ret (.ref it)) _ _ s;exact wpAny_pure (zn _ rfl (zAA ("list_reverseiterator") _ hi.typeIs slot_rev_next.lookup h))
theorem fP{i:Nat}{items:Array Value}{x:Value}{Q:Option Value->Shared->Prop}(hit:IsRev s.heap it l (i:Int))(hl:s.heap.IsList l items)(hx:items[i]?=some x)
 (hQ:∀h',IsRev h' it l ((i:Int)-1)->Heap.SameBut it s.heap h'->Q (some x) {s with heap:=h'}):wpAny (model prog w) A (pyNext (.ref it)) Q E s:=by
 obtain ⟨o,ho,hc,hd⟩:=id hit;obtain ⟨ol,hol,_,nl,hdl⟩:=hl;unfold pyNext;refine wpAny_bind (wpAny_attempt (wpAny_callSpecial?_slot (name:=Str.ofString "__next__") hit.typeIs slot_rev_next (wpAny_call_entry slot_rev_next hit.typeIs fS ?_ (gN _))));show wpAny _ _ (field (.ref it) 1 >>= _) _ _ s;refine wpAny_bind (wpAny_field ho hd (x:=.int i 0) rfl ?_);show wpAny _ _ (if (i:Int)<0 then _ else _) _ _ s;rw [if_neg Jn];show wpAny _ _ (field (.ref it) 0 >>= _) _ _ s;refine wpAny_bind (wpAny_field ho hd (x:=.ref l) rfl ?_);show wpAny _ _ (seqItems? (.ref l) >>= _) _ _ s;refine wpAny_bind (wpAny_seqItems hol hdl ?_);simp only [Int.toNat_natCast,hx];refine wpAny_bind (wpAny_setField ho hd Jo (wpAny_pure (zn x rfl (wpAny_pure (hQ _ ?_ (Heap.SameBut.update ..))))));exact zAC _ (Ct _ ho (Obj.isFreed_of_fields (Obj.data_mapFields hd _))) ((Obj.cls_mapFields ..).trans hc) (by rw [Obj.data_mapFields hd];simp [rawInt])
theorem fY{Q:Option Value->Shared->Prop}(hh:A.handled=none)(hit:IsRev s.heap it l (-1))
 (hQ:∀h',Heap.ExtBut it s.heap h'->Q none {s with heap:=h'}):wpAny (model prog w) A (pyNext (.ref it)) Q E s:=by
 obtain ⟨o,ho,hc,hd⟩:=id hit;unfold pyNext;refine wpAny_bind (wpAny_attempt (wpAny_callSpecial?_slot (name:=Str.ofString "__next__") hit.typeIs slot_rev_next (wpAny_call_entry slot_rev_next hit.typeIs fS ?_ (gN _))));show wpAny _ _ (field (.ref it) 1 >>= _) _ _ s;refine wpAny_bind (wpAny_field ho hd (x:=.int (-1) 0) rfl ?_);show wpAny _ _ (if (-1:Int)<0 then _ else _) _ _ s;rw [if_pos Jm];refine wpAny_bind (wpAny_rule ?_);refine wpAny_bind ?_;show wpAny _ _ (newExc (.type "StopIteration") [] >>= _) _ _ _;refine wpAny_bind ?_;simp only [newExc,newTuple];refine wpAny_bind (wpAny_newObj_type ?_ (by size_fits));refine wpAny_bind (m:=firstArgMember _ _) (wpAny_of_eq (a:=Value.none) (by first | rfl | (simp only [firstArgMember];rfl)) ?_);refine wpAny_newObj_type ?_ (by size_fits);simp only [raiseNew];refine wpAny_bind (wpAny_handled ?_);rw [show A.in1.handled=none from hh];refine wpAny_bind (wpAny_pure (wpAny_throw ?_));refine wpAny_bind (wpAny_isInstance (T:="StopIteration") (b:=true) ⟨_,dy _ rfl,rfl⟩ isSubtype_stop ?_);exact wpAny_pure (hQ _ (fun b o _ e=>cy _ (cy _ e)))
end
end L2
namespace L2
def Itv(K:W.Frag)(a:Addr)(n:Nat):It:=
 ⟨fun i H=>∃xs,SqL K H a xs/\xs.length=n/\i<n,fun i H x H'=>H'=H/\∀xs,SqL K H a xs->xs.reverse[i]?=some x,fun i _=>n<=i⟩
theorem ER{α:Type}{xs:List α}{i:Nat}(h:i<xs.length):xs.reverse[i]?=xs[xs.length-1-i]?:=by rw [An h]
theorem IsRev.keep{h h':Heap}{it l:Addr}{k:Int}(x:IsRev h it l k)(hk:∀o,h.get? it=some o->h'.get? it=some o):IsRev h' it l k:=let ⟨o,ho,r⟩:=x;(zn o (hk o ho) r)
theorem zW{P:Program}{w:World}{K:W.Frag}{tg:Expr}(a it:Addr)(n:Nat):jJ P w K tg (Itv K a n) [it] it (fun i h=>i<=n/\IsRev h it a ((n:Int)-1-(i:Nat))) where
 mem:=by simp
 obj:=fun i h st b hb=>by
  have e:b=it:=by simpa using hb
  subst e;obtain ⟨_,o,e,c,d⟩:=st;exact zn o e fun v z=>by rw [d] at z;cases z
 keep:=fun i h h' st k=>⟨st.1,st.2.keep fun o e=>k it Jo o e⟩
 item:=by
  intro X hP hw hK hc i pins s σ H E I hf st hg;subst hP hw hK;obtain ⟨xs,hq,hn,hi⟩:=hg;subst hn;obtain ⟨x,hx⟩:∃x,xs[xs.length-1-i]?=some x:=⟨_,zq8 Jn⟩
  obtain ⟨its,rv,p,hz⟩:=I.list hq;obtain ⟨u,hu,ru⟩:=rv.get hx;obtain ⟨f0,f1,f2,f3,f4,f5⟩:=hf it Jo;have st0:IsRev s.heap it a ((xs.length-1-i:Nat):Int):=by have:=st.2;rw [show ((xs.length:Int)-1-(i:Nat))=((xs.length-1-i:Nat):Int) by omega] at this;exact this
  refine fP st0 p.isList (x:=u) (by simpa using hu) fun h' st' sb=>?_;have I1:Inv X pins σ H {s with heap:=h'}:=I.turned (t':=s.toks) (fun b o hb e=>(sb.2 b hb).trans e) f0 f1 f3 f4 f5;obtain ⟨o,e,c,d⟩:=id st';have st2:IsRev h' it a ((xs.length:Int)-1-((i+1:Nat):Int)):=by rw [show ((xs.length:Int)-1-((i+1:Nat):Int))=((xs.length-1-i:Nat):Int)-1 by omega];exact st'
  exact zn u rfl (oO (s:={s with heap:=h'}) e c d Jm (zAS x H I1 ru ⟨rfl,fun ys hy=>by rw [I.list_inj hy hq,ER hi];exact hx⟩ ⟨hi,st2⟩ fun b hb=>(hf b hb).1))
 done:=by
  intro X hP hw hK hc i pins s σ H E I hf st hg;subst hP hw hK;obtain ⟨f0,f1,f2,f3,f4,f5⟩:=hf it Jo;have hg':n<=i:=hg;have e:i=n:=Nat.le_antisymm st.1 hg';have st0:IsRev s.heap it a (-1):=by have:=st.2;rw [show ((n:Int)-1-(i:Nat))=-1 by omega] at this;exact this
  exact fY (I.ok.hd hc) st0 fun h' eb=>⟨rfl,I.turned (t':=s.toks) (fun b o hb e=>eb b o hb e) f0 f1 f3 f4 f5⟩
 self:=fun _ _ _ _ _ st h=>fE st.2 h
def Dt(K:W.Frag)(ta:TA):TI:=fun σ H R=>ta σ H fun vs H1=>∃a xs,vs=[.ref a]/\SqL K H1 a xs/\R (Itv K a xs.length) H1
theorem DW{X:Cx}{tg a:Expr}{ta:TA}{p pos:Pos}(hm:X.mg "reversed"=none) (ha:PA X [a] ta) (hg:Gl X "reversed":=by rfl) (hs:starEach [a] X.env=[(false,eval a X.env)]:=by rfl) :
  PI X tg (.Call (.Name "reversed" p) [a] [] pos) (Dt X.K ta):=by
 intro pins s σ H R I h;refine Call_ (dH I hg hm boot_reversed (PyProof.Rows.callWith_type1 (thn (ha pos pins s σ H _ I h) fun us s1 hhx=>?_) hs rfl));obtain ⟨vs,H1,I1,r1,q1⟩:=hhx;obtain ⟨l,xs,e,hq,q⟩:=q1;subst e
 cases r1 with
 |cons r rr=>
  cases rr
  cases r
  obtain ⟨its,rv,pl,hz⟩:=I1.list hq;have hlen:=rv.length;refine dX pl.isList fun h' hit hsz hk=>?_;refine fE hit ?_;have I2:Inv X pins σ H1 {s1 with heap:=h'}:=I1.kept (t':=s1.toks) hk;refine zAV s1.heap.objs.size ([s1.heap.objs.size]) _ _ H1 rfl I2 (zW l _ xs.length) ⟨ce _,?_⟩ (fun b hb=>?_) q
  ·have e:(((its.toArray.size:Nat):Int)-1)=((xs.length:Int)-1-((0:Nat):Int)):=by simp [hlen]
   rw [e] at hit;exact hit
  ·rw [zq2.mp hb];exact I1.fpOk (zq0 _) (I1.hok.fresh (zq0 _))
section
variable {g:TG} {tb:TS} {D:dm} {σ:St} {H:Hp}
theorem Ep{K:W.Frag}{ta:TA}{R:It->Hp->Prop}:Dt K ta σ H R=ta σ H fun vs H1=>∃a xs,vs=[.ref a]/\SqL K H1 a xs/\R (Itv K a xs.length) H1:=rfl
theorem Dm{K:W.Frag}{a:Addr}{xs:List V}(Pv:Nat->St->Hp->Prop)(h0:Pv 0 σ H)(hl:∀i σ H,i<=xs.length->Pv i σ H->SqL K H a xs)
  (hs:∀(i:Nat)x σ H,xs.reverse[i]?=some x->Pv i σ H->g x σ H fun σ2 H2=>tb {D with nx:=Pv (i+1),ct:=Pv (i+1),bk:=D.nx} σ2 H2) (hd:∀σ H,Pv xs.length σ H->D.nx σ H):mw (Itv K a xs.length) g tb D σ H:=by
 refine zn (fun i m σ H=>m=xs.length-i/\i<=xs.length/\Pv i σ H) (zAC xs.length Jo (ce _) h0) ?_;rintro i m σ H ⟨rfl,hi,p⟩;have q:=hl i σ H hi p
 by_cases hlt:i<xs.length
 ·refine .inr ⟨zAC xs q rfl hlt,zn (Pv (i+1)) (fun σ' H' p'=>zAF (xs.length-(i+1)) Jn rfl hlt p') fun x H' y=>?_⟩;obtain ⟨eH,y⟩:=y;subst eH;exact hs i x σ H' (y xs q) p
 ·have e:i=xs.length:=by omega
  subst e;exact .inl ⟨zq0 _,hd σ H p⟩
end
end L2
namespace L2
theorem wC:typeLookup (.type "list_reverseiterator") "__len__"=pure none:=by rw [typeLookup_type,builtinLookup_eq_fast];kernel_rfl
theorem zl:typeLookup (.type "list_reverseiterator") "__length_hint__"=pure (some (.builtin "list_reverseiterator.__length_hint__")):=by rw [typeLookup_type,builtinLookup_eq_fast];kernel_rfl
section
variable {prog:Program} {w:World} {A:Around} {E:Value->Shared->Prop} {s:Shared}
theorem xI{r:Addr}{Q:Bool->Shared->Prop}(hT:s.TypeIs (.ref r) "list_reverseiterator") (h:Q false s):wpAny (model prog w) A (Builtin.List.listLengthHint (.ref r)) Q E s:=by
 unfold Builtin.List.listLengthHint;refine wpAny_bind (wpAny_specialOf hT wC ?_);refine wpAny_ite_split (fun hab=>absurd hab Jm) (fun _=>?_);refine wpAny_ite_split (fun hab=>absurd hab Jm) (fun _=>?_);refine wpAny_bind (wpAny_specialOf hT zl ?_);generalize hid:("list_reverseiterator.__length_hint__":String)=id0
 wp_delta
 rw [show splitId id0=some ("list_reverseiterator","__length_hint__") from by subst hid;decide +kernel];subst hid;refine wpAny_bind (wpAny_isInstance (T:="list_reverseiterator") (b:=true) hT (by rw [isSubtype_type];kernel_rfl) ?_);refine wpAny_ite_split (fun hab=>absurd hab Jm) (fun _=>?_);refine wpAny_ite_split (fun _=>?_) (fun hab=>absurd Jk hab);refine wpAny_ite_split (fun hab=>absurd hab Jk) (fun _=>?_);exact wpAny_pure h
theorem wR(hh:A.handled=none)(it l:Addr)(hne:it≠l)(items:Array Value):Walks prog w A it [it,l] [it] items.size (fun i v=>items[items.size-1-i]?=some v) (fun i h=>i<=items.size/\IsRev h it l ((items.size:Int)-1-(i:Nat))/\h.IsList l items) where
 sub:=by intro b hb;rw [zq2.mp hb];simp
 frame:=fun i h h' st k=>zAB st.1 (st.2.1.keep fun o e=>k it Jo o e) (let ⟨o,ho,r⟩:=st.2.2;(zn o (k l Jo o ho) r))
 item:=by
  intro i s Q E hi st hQ;obtain ⟨x,hx⟩:∃x,items[items.size-1-i]?=some x:=⟨_,D3 Jn⟩
  have st0:IsRev s.heap it l ((items.size-1-i:Nat):Int):=by have:=st.2.1;rw [show ((items.size:Int)-1-(i:Nat))=((items.size-1-i:Nat):Int) by omega] at this;exact this
  refine fP st0 st.2.2 hx fun h' st' sb=>hQ x h' s.toks hx (zAB hi ?_ ?_) (fun b o hb e=>(sb.2 b (fun z=>hb (by simp [z]))).trans e)
  ·rw [show ((items.size:Int)-1-((i+1:Nat):Int))=((items.size-1-i:Nat):Int)-1 by omega];exact st'
  ·obtain ⟨o,ho,r⟩:=st.2.2;exact zn o ((sb.2 l (Ne.symm hne)).trans ho) r
 done:=by
  intro s Q E st hQ;have st0:IsRev s.heap it l (-1):=by have:=st.2.1;rw [show ((items.size:Int)-1-((items.size:Nat):Int))=-1 by omega] at this;exact this
  exact fY hh st0 fun h' eb=>hQ h' s.toks (fun b o hb e=>eb b o (fun z=>hb (by simp [z])) e)
 self:=fun i s Q E st h=>fE st.2.1 h
theorem B5{R:Result->Shared->Prop}{it l S:Addr}{items:Array Value}(hh:A.handled=none)(hit:IsRev s.heap it l ((items.size:Int)-1))(hL:s.heap.IsList l items)(hil:it≠l)(hSi:S≠it)(hSl:S≠l)(res:Value)(c₀:Nat)(hS:s.heap.get? S=some {cls:=.type "list",data:=.seq #[] c₀})
  (hR:∀h' tk acc' c',(∀b o,b≠S->b≠it->s.heap.get? b=some o->h'.get? b=some o)->h'.get? S=some {cls:=.type "list",dict:=none,data:=.seq acc' c',slots:=#[]}->ItemsOf (fun i v=>items[items.size-1-i]?=some v) acc' items.size->R (.ok (.ret res)) {s with heap:=h',toks:=tk}) (hn:items.size<=sizeLine) :
  wpAny (model prog w) A.in1 (Builtin.List.listExtendWith (.ref S) (.ref it) res)
   (fun fin s'=>match fin with | .done f=>R (.ok f) s' | .again c'=>c'.quiet=true/\codeAny (model prog w) A c' R s') (fun e s'=>R (.error e) s') s:=by
 have W:=wR (prog:=prog) (w:=w) (A:=A.in1) hh it l hil items;have hSf:S∉[it,l]:=by simp only [List.mem_cons,List.not_mem_nil,or_false,not_or];exact ⟨hSi,hSl⟩
 have st0:(0:Nat)<=items.size/\IsRev s.heap it l ((items.size:Int)-1-((0:Nat):Int))/\s.heap.IsList l items:=zAB (ce _) (by rw [show ((items.size:Int)-1-((0:Nat):Int))=(items.size:Int)-1 by omega];exact hit) hL
 unfold Builtin.List.listExtendWith;refine wpAny_bind (wpAny_typeOf (T:="list_reverseiterator") hit.typeIs ?_);have h1:Builtin.List.listSameRef (.ref S) (.ref it)=false:=by simp [Builtin.List.listSameRef,hSi]
 have n1:(Value.type "list_reverseiterator"==Value.type "list")=false:=by decide
 have n2:(Value.type "list_reverseiterator"==Value.type "tuple")=false:=by decide
 simp only [h1,n1,n2,Bool.or_false,Bool.false_eq_true,if_false];refine wpAny_bind (fE hit ?_);refine wpAny_bind (wpAny_holding (xI hit.typeIs ?_));refine wpAny_ite_split (fun hab=>absurd hab Jk) (fun _=>wpAny_pure ⟨plainId_quiet PySem.F.plain_extend_loop _,?_⟩);refine codeAny_extend_loopS W.toS hn S hSf res items.size 0 _ #[] c₀ rfl (ce _) st0 hS (ItemsOf.nil _) fun s' acc' c' hm hS' hacc=>?_;rw [Moved.eq_with hm];refine hR s'.heap s'.toks acc' c' (fun b o hb hb2 e=>hm.heap b o (fun hmem=>?_) e) hS' hacc;rcases zq5.mp hmem with e' | hmem
 ·exact hb e'
 ·exact hb2 (zq2.mp hmem)
theorem kS{it l:Addr}{items:Array Value}{Q:Value->Shared->Prop}(hh:A.handled=none)(hit:IsRev s.heap it l ((items.size:Int)-1))(hL:s.heap.IsList l items)(hil:it≠l)(hn:items.size<=sizeLine)
  (hQ:∀h' tk acc' c',(∀b o,b≠it->s.heap.get? b=some o->h'.get? b=some o)->h'.get? s.heap.objs.size=some {cls:=.type "list",dict:=none,data:=.seq acc' c',slots:=#[]}->ItemsOf (fun i v=>items[items.size-1-i]?=some v) acc' items.size->Q (.ref s.heap.objs.size) {s with heap:=h',toks:=tk}) :
  wpAny (model prog w) A (call (.type "list") [.ref it]) Q E s:=by
 refine callType_codes (Q₁:=fun obj s₁=>obj=.ref s.heap.objs.size/\s₁={s with heap:=s.heap.push {cls:=.type "list",data:=.seq #[]}}) PySem.F.called_list (PySem.F.typeCall_list_1 _) PySem.F.entry_list_init
  (code_list_new _ ⟨rfl,rfl⟩) fun obj s₁ h₁=>?_
 obtain ⟨rfl,rfl⟩:=h₁;have hS:(s.heap.push {cls:=.type "list",data:=.seq #[]}).get? s.heap.objs.size=some {cls:=.type "list",data:=.seq #[]}:=dy _ rfl;obtain ⟨oi,hoi,ri⟩:=id hit;obtain ⟨ol,hol,rl⟩:=id hL;have li:=zq7 hoi;have ll:=zq7 hol;refine zAB (zn _ hS rfl) (PySem.F.args_list_init_2 _ _) ?_;show wpAny _ _ (do let old <- Builtin.List.listItems (.ref s.heap.objs.size);Builtin.List.listUpdate (.ref s.heap.objs.size) (fun _=>#[]);letGo old.toList.reverse;Builtin.List.listExtendWith (.ref s.heap.objs.size) (.ref it) .none) _ _ _;refine wpAny_bind ?_;unfold Builtin.List.listItems;refine wpAny_bind (wpAny_seqItems hS rfl (wpAny_pure ?_));show wpAny _ _ (updateSeq s.heap.objs.size (fun _=>#[]) >>= fun _=>letGo (#[]:Array Value).toList.reverse >>= fun _=>Builtin.List.listExtendWith (.ref s.heap.objs.size) (.ref it) .none) _ _ _;refine wpAny_bind (wpAny_updateSeq hS rfl ?_);have hS₂:=Ct (Obj.mapSeq (fun _=>(#[]:Array Value))) hS rfl;have oth:∀b o,b≠s.heap.objs.size->(s.heap.push {cls:=.type "list",data:=.seq #[]}).get? b=some o->((s.heap.push {cls:=.type "list",data:=.seq #[]}).update s.heap.objs.size (Obj.mapSeq (fun _=>(#[]:Array Value)))).get? b=some o:=
  fun b o hb e=>(Ai _ _ (Ne.symm hb)).trans e
 have ki:∀b o,s.heap.get? b=some o->((s.heap.push {cls:=.type "list",data:=.seq #[]}).update s.heap.objs.size (Obj.mapSeq (fun _=>(#[]:Array Value)))).get? b=some o:=fun b o e=>oth b o (cD (zq7 e)) (cy _ e);refine wpAny_bind (wpAny_letGo ?_);refine B5 (A:=A.in1) hh (zn oi (ki _ _ hoi) ri) (zn ol (ki _ _ hol) rl) hil (lh li) (lh ll) .none _ hS₂ (fun h' tk acc' c' hk hS' hacc=>?_) hn;exact ⟨rfl,hQ h' tk acc' c' (fun b o hb e=>hk b o (cD (zq7 e)) hb (ki b o e)) hS' hacc⟩
end
end L2
namespace L2
theorem Paired.app{α β:Type}{F:α->β->Prop}:∀{l₁:List α} {l₂:List β} {m₁:List α} {m₂:List β},Paired F l₁ l₂->Paired F m₁ m₂->Paired F (l₁++m₁) (l₂++m₂)
 |_,_,_,_,.nil,h=>h
 |_,_,_,_,.cons h t,h2=>.cons h (Paired.app t h2)
theorem Paired.rev{α β:Type}{F:α->β->Prop}:∀{l₁:List α} {l₂:List β},Paired F l₁ l₂->Paired F l₁.reverse l₂.reverse
 |_,_,.nil=>.nil
 |_,_,.cons h t=>by rw [Ao,Ao];exact Paired.app (Paired.rev t) (.cons h .nil)
theorem vD{its:List Value}{acc:Array Value}(h:ItemsOf (fun i v=>its.toArray[its.toArray.size-1-i]?=some v) acc its.toArray.size):acc=its.reverse.toArray:=by
 obtain ⟨h1,h2⟩:=h;apply Array.ext_getElem?;intro j;have e1:its.toArray.size=its.length:=by simp
 rw [e1] at h1 h2
 by_cases hj:j<acc.size
 ·have z:=h2 j acc[j] (by simp [hj]);rw [D3 hj,uY,An Jn];have z2:its.toArray[its.length-1-j]?=some acc[j]:=z;rw [uY] at z2;exact z2.symm
 ·rw [Array.getElem?_eq_none Jn,uY,D4 (by simp;omega)]
def kK(K:W.Frag)(ta:TA):TE:=fun σ H Q=>ta σ H fun vs H1=>∃a xs,vs=[.ref a]/\SqL K H1 a xs/\∀l,H1 l=none->Q (.ref l) (upd H1 l (.lst xs.reverse))
theorem rH{X:Cx}{a:Expr}{ta:TA}{p p2 pos pos2:Pos}(hc:X.calm=true)(hm:X.mg "list"=none) (hm2:X.mg "reversed"=none) (ha:PA X [a] ta) (hg:Gl X "list") (hg2:Gl X "reversed") (hs:starEach [a] X.env=[(false,eval a X.env)]:=by rfl)
  (hs2:starEach [.Call (.Name "reversed" p2) [a] [] pos2] X.env=[(false,eval (.Call (.Name "reversed" p2) [a] [] pos2) X.env)]:=by rfl) :
  PE X (.Call (.Name "list" p) [.Call (.Name "reversed" p2) [a] [] pos2] [] pos) (kK X.K ta):=by
 intro pins s σ H Q I h;refine Call_ (dH I hg hm boot_list (PyProof.Rows.callWith_type1 ?_ hs2 rfl));rw [hs2];show wpAny _ _ (spliced ((false,eval (.Call (.Name "reversed" p2) [a] [] pos2) X.env)::[])) _ _ s;refine Calls.spliced_cons (Call_ (dH I hg2 hm2 boot_reversed (PyProof.Rows.callWith_type1 (thn (ha pos2 pins s σ H _ I h) fun us s1 hhx=>?_) hs rfl)));obtain ⟨vs,H1,I1,r1,q1⟩:=hhx;obtain ⟨l,xs,e,hq,q⟩:=q1;subst e
 cases r1 with
 |cons r rr=>
  cases rr
  cases r
  obtain ⟨its,rv,pl,hz⟩:=I1.list hq;have hlen:=rv.length;refine dX pl.isList fun h' hit hsz hk=>Calls.spliced_nil ?_;obtain ⟨o,ho,ro⟩:=pl.isList;have hlt:=zq7 ho;refine kS (I.ok.hd hc) hit (zn o (hk _ _ ho) ro) (lh hlt) (by simp;omega) fun h2 tk acc c' hk2 hS hacc=>?_;have eacc:=vD hacc;subst eacc;have kp:∀b u,s1.heap.get? b=some u->h2.get? b=some u:=fun b u e=>hk2 b u (cD (zq7 e)) (hk b u e);refine zAA (.ref h'.objs.size) _ (I1.laid (t':=tk) kp (show s1.heap.objs.size<=h'.objs.size by omega) (show ObjOk X.prog X.w _ h2 _ (.lst xs.reverse) from ⟨by rw [AI];exact hz,zAD its.reverse c' (Paired.rev rv) hS⟩)) rfl (q _ (I1.hok.fresh Jn))
theorem wt{K:W.Frag}{ta:TA}{σ:St}{H:Hp}{Q:VK}:kK K ta σ H Q=ta σ H fun vs H1=>∃a xs,vs=[.ref a]/\SqL K H1 a xs/\∀l,H1 l=none->Q (.ref l) (upd H1 l (.lst xs.reverse)):=rfl
section
variable {X:Cx}
theorem pe:MtM X "dict.copy" E2:=by
 intro pins s σ H x vs v us Q I rx rv h;obtain ⟨l,kvs,rfl,rfl,hH,q⟩:=h
 cases rx
 have hus:=rv.zero;subst hus;obtain ⟨z,hd,ws,rel,dd⟩:=gO I.hok hH;refine call_meetsIn PySem.F.slot_dict_copy dd.typeIs PySem.F.entry_dict_copy (PySem.F.args_dict_copy_1 _) (meets_dict_copy (bi X.prog X.w) l hd) (zAC ws dd (by rw [<- rel.length];exact z) fun h' dn _ hk=>?_);exact zAA (.ref s.heap.objs.size) _ (I.laid (t':=s.toks) hk (zq0 _) (qX z (uM I) rel dn)) rfl (q _ (I.hok.fresh (zq0 _)))
end
end L2
namespace L2
theorem BM{td ty tx:TE}{σ:St}{H:Hp}{Q:VK}:zN td ty tx σ H Q=td σ H fun x H1=>∃a,x=.ref a/\IsD H1 a/\ty σ H1 fun y H2=>tx σ H2 fun z H3=>∃o,DGet H3 a y o/\Q (o.getD z) H3:=rfl
end L2
namespace L2
variable {X:Cx} {a b c e i iter o:Expr} {apos cpos p pos':Pos} {es:List Expr} {f:Addr} {ps:List Str} {qual x:Str} {sp:Sp} {tA:TT} {ta te to:TE} {wi:TI}
structure XE(X:Cx)(e:Expr)(t:TE):Prop where
 h:PE X e t
structure XT(X:Cx)(e:Expr)(t:TT):Prop where
 h:PT X e t
structure XW(X:Cx)(e:Expr)(t:TT):Prop where
 h:PW X e t
structure XA(X:Cx)(es:List Expr)(t:TA):Prop where
 h:PA X es t
structure XS(X:Cx)(st:Stmt)(t:TS):Prop where
 h:PS X st t
structure XSs(X:Cx)(st:List Stmt)(t:TS):Prop where
 h:PSs X st t
structure XG(X:Cx)(target:Expr)(t:TG):Prop where
 h:PG X target t
structure XGs(X:Cx)(ts:List Expr)(t:TGs):Prop where
 h:PGs X ts t
structure XI(X:Cx)(tg iter:Expr)(wi:TI):Prop where
 h:PI X tg iter wi
structure XO(X:Cx)(e:Option Expr)(t:TO):Prop where
 h:PO X e t
structure XC(X:Cx)(op:CmpOp)(a b:Expr)(t:TE):Prop where
 h:PC X op a b t
structure xb(X:Cx)(ifs:List Expr)(t:TT):Prop where
 h:vh X ifs t
theorem ae{i j pos}:XE X (.Constant (.int i) j pos) (tC (.int i)):=⟨yA⟩
theorem bE{b j pos}:XE X (.Constant (.bool b) j pos) (tC (.bl b)):=⟨CJ⟩
theorem dc{j pos}:XE X (.Constant .none j pos) (tC .non):=⟨yD⟩
theorem aI{x j pos}:XE X (.Constant (.str x) j pos) (tC (.str x)):=⟨yE⟩
theorem ax{tb:TE}{pos:Pos}{op:Operator}{r:R2}(ho:OpR X (binaryOp op) r)(ha:XE X a ta)(hb:XE X b tb):XE X (.BinOp a op b pos) (tOp r ta tb):=⟨by intro pins s σ H Q I h;exact wpAny_BinOp (De ha.h hb.h I h fun v u s2 x y H2 I2 rx ry q=>ho pins s2 σ H2 x y v u Q I2 rx ry q)⟩
theorem j8{pos:Pos}{op:UnaryOp}{r:V->Hp->VK->Prop}(ho:UnR X (unaryOp op) r)(ha:XE X a ta):XE X (.UnaryOp op a pos) (tUn r ta):=⟨by intro pins s σ H Q I h;exact UnaryOp_ (thn (ha.h pins s σ H _ I h) fun v s1 ⟨x,H1,I1,r1,q1⟩=>ho pins s1 σ H1 x v Q I1 r1 q1)⟩
theorem aW{tb:TE}{pos:Pos}{op:CmpOp}{r:R2}(ho:OpR X (compareOp op) r)(ha:XE X a ta)(hb:XE X b tb)(hm:behindInMarks op b=false):XE X (.Compare a [op] [b] pos) (tOp r ta tb):=⟨by intro pins s σ H Q I h;exact wpAny_Compare1 (De ha.h hb.h I h fun v u s2 x y H2 I2 rx ry q=>ho pins s2 σ H2 x y v u Q I2 rx ry q) hm⟩
theorem cL{b:Expr}{tb:TE}{pos:Pos}{fQ:List Expr}(ha:XE X a ta)(hb:XE X (.BoolOp .And (b::fQ) pos) tb):XE X (.BoolOp .And (a::b::fQ) pos) (CV ta tb):=⟨by
 intro pins s σ H Q I h;refine BoolOp_and (thn (ha.h pins s σ H _ I h) fun v s1 hhx=>?_);obtain ⟨x,H1,I1,r1,q1⟩:=hhx;obtain ⟨c,rfl,q1⟩:=q1
 cases r1
 refine wpAny_truthy_bool ?_
 cases c with
 |true=>exact hb.h pins s1 σ H1 Q I1 q1
 |false=>exact zAA (.bl false) H1 I1 rfl q1⟩
theorem A5{b:Expr}{tb:TE}{pos:Pos}{fQ:List Expr}(ha:XE X a ta)(hb:XE X (.BoolOp .Or (b::fQ) pos) tb):XE X (.BoolOp .Or (a::b::fQ) pos) (Ik ta tb):=⟨by
 intro pins s σ H Q I h;refine BoolOp_or (thn (ha.h pins s σ H _ I h) fun v s1 hhx=>?_);obtain ⟨x,H1,I1,r1,q1⟩:=hhx;obtain ⟨c,rfl,q1⟩:=q1
 cases r1
 refine wpAny_truthy_bool ?_
 cases c with
 |false=>exact hb.h pins s1 σ H1 Q I1 q1
 |true=>exact zAA (.bl true) H1 I1 rfl q1⟩
theorem dB{pos:Pos}{op}{t:TE}(h:XE X a t):XE X (.BoolOp op [a] pos) t:=⟨fun pins s σ H Q I hw=>BoolOp_one (h.h pins s σ H Q I hw)⟩
theorem Ck{pos:Pos}(ha:XE X a ta):XE X (.UnaryOp .Not a pos) (D0 ta):=⟨by
 intro pins s σ H Q I h;refine UnaryOp_ (thn (ha.h pins s σ H _ I h) fun v s1 hhx=>?_);obtain ⟨x,H1,I1,r1,q1⟩:=hhx;obtain ⟨c,rfl,q1⟩:=q1
 cases r1
 exact not_of (wpAny_truthy_bool (zAA (.bl (!c)) H1 I1 rfl q1))⟩
theorem cM{tb:TE}{pos:Pos}(hc:XT X c tA)(ha:XE X a ta)(hb:XE X b tb):XE X (.IfExp c a b pos) (tIf tA ta tb):=⟨by
 intro pins s σ H Q I h;refine wpAny_IfExp (thn (hc.h pins s σ H _ I h) fun d s1 hhx=>?_);obtain ⟨H1,I1,q1⟩:=hhx
 cases d with
 |true=>exact ha.h pins s1 σ H1 Q I1 q1
 |false=>exact hb.h pins s1 σ H1 Q I1 q1⟩
theorem aT{t:TA}{pos:Pos}(h:XA X es t):XE X (.List es pos) (Ii t):=⟨by intro pins s σ H Q I hq;refine wpAny_List_spliced (thn (h.h pos pins s σ H _ I hq) fun us s1 ⟨xs,H1,I1,r,z,q⟩=>⟨by rw [<- r.length];exact z,?_⟩);have hf:H1 s1.heap.objs.size=none:=I1.hok.fresh (zq0 _);refine zAA (.ref s1.heap.objs.size) (upd H1 s1.heap.objs.size (.lst xs)) (I1.laid (t':=s1.toks) (fun b u e=>cy _ e) (zq0 _) ?_) rfl (q _ hf);exact ⟨z,zAD us 0 r (dy _ rfl)⟩⟩
theorem aP{t:TA}{pos:Pos}{x1}(h:XA X es t):XE X (.Tuple es x1 pos) (Il t):=⟨by intro pins s σ H Q I hq;refine wpAny_Tuple_spliced (thn (h.h pos pins s σ H _ I hq) fun us s1 ⟨xs,H1,I1,r,z,q⟩=>⟨by rw [<- r.length];exact z,?_⟩);have hf:H1 s1.heap.objs.size=none:=I1.hok.fresh (zq0 _);refine zAA (.ref s1.heap.objs.size) (upd H1 s1.heap.objs.size (.tup xs)) (I1.laid (t':=s1.toks) (fun b u e=>cy _ e) (zq0 _) ?_) rfl (q _ hf);exact ⟨z,zn us r (zAC _ (dy _ rfl) rfl ⟨_,rfl⟩)⟩⟩
theorem j7{pos:Pos}:XE X (.Dict [] [] pos) zO:=⟨fun pins s σ H Q I h=>wpAny_Dict_empty (zAA (.ref s.heap.objs.size) _ (I.laid (a:=s.heap.objs.size) (o:=.dK []) (t':=s.toks) (fun _ _ q=>cy _ q) (zq0 _) (xv s.heap I.big)) rfl (h _ (I.hok.fresh (zq0 _))))⟩
theorem aB{pos:Pos}{e:Expr}{t:TA}{id:String}{r:List V->Hp->VK->Prop}(hc:eA X (.builtin id) r)(hg:Gl X x)(hm:X.mg x=none)(hv:bootBuiltins x=some (.builtin id))(ha:XA X (e::es) t)(hn:(x==("__name__":Str))=false:=by kernel_rfl) (hdb:(x==("__debug__":Str))=false:=by kernel_rfl) (he:starEach (e::es) X.env=(false,eval e X.env)::starEach es X.env:=by rfl) (hpl:(backTo pos (starEach es X.env)).any (·.1)=false:=by rfl):XE X (.Call (.Name x p) (e::es) [] pos) (tCB r t):=⟨yw hc hg hm hv ha.h (mT hn) hdb he hpl⟩
theorem bL{pos:Pos}{e:Expr}{t:TA}{T:String}{r:List V->Hp->VK->Prop}(hc:eA X (.type T) r)(hg:Gl X x)(hm:X.mg x=none)(hv:bootBuiltins x=some (.type T))(ha:XA X (e::es) t)(hn:(x==("__name__":Str))=false:=by kernel_rfl) (hdb:(x==("__debug__":Str))=false:=by kernel_rfl) (he:starEach (e::es) X.env=(false,eval e X.env)::starEach es X.env:=by rfl) (hpl:(backTo pos (starEach es X.env)).any (·.1)=false:=by rfl):XE X (.Call (.Name x p) (e::es) [] pos) (tCB r t):=⟨we hc hg hm hv ha.h (mT hn) hdb he hpl⟩
theorem ap{k:Nat}{fd:FuncData}{st:Stmt}{pos:Pos}{e:Expr}{t:TA}(D:b8 X.K X.mg x st ps f fd)(G:FnOk X.prog X.w X.K X.mg X.base CX0 k f fd ps sp)(hr:Room k X.A)(ha:XA X (e::es) t)(hg:Gl X x)(hdb:(x==("__debug__":Str))=false:=by kernel_rfl) (he:starEach (e::es) X.env=(false,eval e X.env)::starEach es X.env:=by rfl) (hpl:(backTo pos (starEach es X.env)).any (·.1)=false:=by rfl):XE X (.Call (.Name x p) (e::es) [] pos) (qA sp [] E0 t):=⟨yH D G hr ha.h hg hdb he hpl⟩
theorem c5{e:Expr}{t:TA}{name:Str}{T id:String}{r:V->List V->Hp->VK->Prop}(pa:PlainAttrs T)(slot:Slot T name id)(hty:typeOf (.builtin id)=pure (.type "method_descriptor")) (hm:MtR X id r) (ho:XE X o to) (ha:XA X (e::es) t) (hbase:attributeBase o name X.env (eval o X.env)=eval o X.env:=by rfl) (hfew:((backTo cpos (starEach (e::es) X.env)).all (fun x=>!x.1)&&(backToKw cpos (keywordEach [] X.env)).all (fun x=>x.1.isSome)
 && decide ((e::es).length+([]:List Keyword).length+(if ([]:List Keyword).isEmpty then 0 else 1)<30))=true:=by rfl) (hline:(apos.endLine==cpos.line)=true:=by rfl) (hs:starEach (e::es) X.env=(false,eval e X.env)::starEach es X.env:=by rfl) (hplain:(backTo cpos (starEach es X.env)).any (·.1)=false:=by rfl):XE X (.Call (.Attribute o name apos) (e::es) [] cpos) (tBM X.K T r to t):=⟨Fw pa slot hty hm ho.h ha.h hbase hfew hline hs hplain⟩
theorem nD{name:Str}{T id:String}{r:V->List V->Hp->VK->Prop}(pa:PlainAttrs T)(slot:Slot T name id)(hty:typeOf (.builtin id)=pure (.type "method_descriptor")) (hm:MtR X id r) (ho:XE X o to) (hbase:attributeBase o name X.env (eval o X.env)=eval o X.env:=by rfl) (hline:(apos.endLine==cpos.line)=true:=by rfl):XE X (.Call (.Attribute o name apos) [] [] cpos) (Ig X.K T r to):=⟨by intro pins s σ H Q I h;refine wpAny_Call_method0_late hbase hline (thn (ho.h pins s σ H _ I h) fun v s1 hhx=>?_);obtain ⟨x,H1,I1,r1,ty,q1⟩:=hhx;obtain ⟨h1,h2⟩:=sh I1 r1 ty;exact zBF T id pa slot hty h1 h2 (Calls.callWith_builtin rfl (PySem.evalArgs_none (hm pins s1 σ H1 x [] v [] Q I1 r1 .nil q1)))⟩
theorem bO{lo hi:Option Expr}{tl th:TO}{pos p2:Pos}{r:V->Option Int->Option Int->Hp->VK->Prop}(hr:SlR X r)(he:XE X e te)(hl:XO X lo tl)(hu:XO X hi th):XE X (.Subscript e (.Slice lo hi none p2) pos) (tSl r te tl th):=⟨by intro pins s σ H Q I h;refine Subscript_ (thn (he.h pins s σ H _ I h) fun v s1 hhx=>?_);obtain ⟨x,H1,I1,r1,q1⟩:=hhx;refine wpAny_Slice (thn (hl.h pins s1 σ H1 _ I1 q1) fun vl s2 ⟨l,H2,I2,pl,q2⟩=>thn (hu.h pins s2 σ H2 _ I2 q2) fun vu s3 hhx=>?_);obtain ⟨u,H3,I3,pu,q3⟩:=hhx;rw [evalPart_none];refine wpAny_pure ?_;have I4:Inv X pins σ H3 {s3 with heap:=s3.heap.push {cls:=.type "slice",data:=.fields #[vl,vu,.none]}}:=I3.kept (t':=s3.toks) fun b ob q=>cy _ q;obtain ⟨T,id,hT,ht,hg⟩:=hr pins {s3 with heap:=s3.heap.push {cls:=.type "slice",data:=.fields #[vl,vu,.none]}} σ H3 x v vl vu l u s3.heap.objs.size Q I4 r1 (Heap.IsSliceOf.new ..) pl pu q3;show wpAny (model X.prog X.w) X.A (subscriptTail e (.Slice lo hi none p2) v (.ref s3.heap.objs.size)) (EP X pins σ Q) X.xe {s3 with heap:=s3.heap.push {cls:=.type "slice",data:=.fields #[vl,vu,.none]}};exact tail_any (ops:=[.ref s3.heap.objs.size,v]) ht hT hg (by with_unfolding_all rfl)⟩
theorem cu{pos:Pos}{td ty:TE}(hu:X.A.units+1<cLine)(ho:XE X o td)(hi:XE X i ty)(hs:F6 i):XE X (.Subscript o i pos) (CW td ty):=⟨by intro pins s σ H Q I h;refine Cc PySem.F.slot_dict_getitem.lookup hs (thn (ho.h pins s σ H _ I h) fun u s1 ⟨x,H1,I1,rx,q1⟩=>thn (hi.h pins s1 σ H1 _ I1 q1) fun iv s2 hhx=>?_);obtain ⟨y,H2,I2,ry,a,v,ex,g,q2⟩:=hhx;subst ex;obtain rfl:u=Value.ref a:=rx;exact ⟨oF I2 g,vo hu I2 g ry fun w' s3 I3 rw'=>zAA v H2 I3 rw' q2⟩⟩
theorem wW{f:Expr}{td ty tx:TE}(hu:X.A.units+1<cLine)(ho:XE X o td)(he:XE X e ty)(hf:XE X f tx)(m:M2 X o "get" apos e f cpos):XE X (.Call (.Attribute o "get" apos) [e,f] [] cpos) (zN td ty tx):=⟨by
 intro pins s σ H Q I h;refine wpAny_Call_method m.base m.few m.line PySem.F.plainAttrs_dict PySem.F.slot_dict_get PySem.F.type_dict_get (thn (ho.h pins s σ H _ I h) fun u s1 hhx=>?_);obtain ⟨x,H1,I1,rx,a,ex,d,q1⟩:=hhx;subst ex;obtain rfl:u=Value.ref a:=rx;obtain ⟨t1,t2,_⟩:=xN I1 d;refine zAB t1 t2 ?_;rw [m.trees];refine Calls.callWith_builtin rfl (Calls.evalArgs_plain (Calls.spliced_cons (thn (he.h pins s1 σ H1 _ I1 q1) fun iv s2 ⟨y,H2,I2,ry,q2⟩=>Calls.spliced_cons (thn (hf.h pins s2 σ H2 _ I2 q2) fun fv s3 ⟨z,H3,I3,rz,ov,g,q3⟩=>Calls.spliced_nil ?_))))
 exact Dk hu I3 g ry rz fun w' s4 I4 rw'=>zAA _ H3 I4 rw' q3⟩
theorem am{tb:TE}{pos:Pos}{r:R2}(hr:IxR X r)(ha:XE X a ta)(hb:XE X b tb)(hs:AQ b:=by intro _ _;rfl):XE X (.Subscript a b pos) (tOp r ta tb):=⟨by intro pins s σ H Q I h;exact Subscript_ (De ha.h hb.h I h fun v u s2 x y H2 I2 rx ry q=>hr a b pins s2 σ H2 x y v u Q I2 rx ry q (hs _ _))⟩
theorem aN{f:Str}{pos:Pos}(he:XE X e ta)(hb:attributeBase e f X.env (eval e X.env)=eval e X.env):XE X (.Attribute e f pos) (Ih X.K ta f):=⟨by intro pins s σ H Q I h;refine AT hb (thn (he.h pins s σ H _ I h) fun u s1 hhx=>?_);obtain ⟨x,H1,I1,rx,a,C,dx,fs,v,ex,ea,c,n,l,q⟩:=hhx;subst ex;obtain rfl:u=Value.ref a:=rx;exact rh I1 ea c n l fun u' s2 I2 ru=>zAA v H1 I2 ru q⟩
theorem bT{elt tgt:Expr}{ifs:List Expr}{pos:Pos}{scope:Scope}{g:Bk->TG}{tt:Bk->TT}{te:Bk->TE}{tns cns:List Str}{ci:List Nat}(hc:X.calm=true)(S:CompSc X scope cns ci)(hi:XI X tgt iter wi)(hg:∀bk:Bk,XG (X.blk (".0"::(tns++cns)) scope bk) tgt (g bk)) (ht:∀bk:Bk,xb (X.blk (".0"::(tns++cns)) scope bk) ifs (tt bk)) (he:∀bk:Bk,XE (X.blk (".0"::(tns++cns)) scope bk) elt (te bk)) (hs:∀v,foldedSetIterable iter X.env v=pure v:=by intro _;rfl):XE X (.ListComp elt [⟨tgt,iter,ifs,0⟩] scope pos) (kJ wi g tt te tns.length ci):=⟨yy hc S hi.h (fun bk=>(hg bk).h) (fun bk=>(ht bk).h) (fun bk=>(he bk).h) hs⟩
theorem bF{v:V}{u:Value}{pos:Pos}(hg:Gl X x)(hm:X.mg x=none)(hv:bootBuiltins x=some u)(r:RelV v u)(hn:(x==("__name__":Str))=false:=by kernel_rfl) (hd:(x==("__debug__":Str))=false:=by kernel_rfl):XE X (.Name x pos) (tC v):=⟨BB hg hm hv r (mT hn) hd⟩
theorem A8{v:V}{u:Value}{pos:Pos}(hg:Gl X x)(hm:X.mg x=some u)(r:RelV v u)(hd:(x==("__debug__":Str))=false:=by kernel_rfl):XE X (.Name x pos) (tC v):=⟨BD hg hm r hd⟩
theorem av{tb:TE}{pos:Pos}{op:CmpOp}{r:R2}(ho:OpR X (compareOp op) r)(ha:XE X a ta)(hb:XE X b tb)(hm:behindInMarks op b=false):XT X (.Compare a [op] [b] pos) (D2 (tOp r ta tb)):=⟨by
 intro pins s σ H Q I h;refine wpAny_isTrue_Compare1 (thn (ha.h pins s σ H _ I h) fun v s1 ⟨x,H1,I1,r1,q1⟩=>thn (hb.h pins s1 σ H1 _ I1 q1) fun u s2 ⟨y,H2,I2,r2,q2⟩=>thn (ho pins s2 σ H2 x y v u _ I2 r1 r2 q2) fun c s3 ⟨z,H3,I3,r3,k,e,q3⟩=>?_) hm
 subst e
 cases r3
 exact wpAny_truthy_bool (zn H3 I3 q3)⟩
theorem aZ{t:TE}(h:XE X e t)(he:∀whole,isTrue e X.env whole=(do let v <- whole;standAt e.pos;holding [v] (truthy v)):=by intro _;rfl):XT X e (tB t):=⟨by
 intro pins s σ H Q I hw;refine isTrue_plain (thn (h.h pins s σ H _ I hw) fun v s1 hhx=>?_) (he _);obtain ⟨x,H1,I1,r1,q1⟩:=hhx;obtain ⟨d,rfl,q⟩:=q1
 cases r1
 exact wpAny_truthy_bool (zn H1 I1 q)⟩
theorem bj{pos:Pos}(ha:XT X a tA):XT X (.UnaryOp .Not a pos) (Ij tA):=⟨by intro pins s σ H Q I h;exact isTrue_not (ha.h pins s σ H (fun c H1=>Q (!c) H1) I h)⟩
theorem Cp{pos:Pos}{op:CmpOp}{t:TE}(h:XC X op a b t)(h1:behindInMarks op b=false:=by first | exact xY _ Jm Jm | rfl):XT X (.Compare a [op] [b] pos) (tB t):=⟨by
 intro pins s σ H Q I hw;refine wpAny_isTrue_Compare1 (thn (h.h pins s σ H _ I hw) fun v s1 h1=>thn h1 fun u s2 h2=>thn h2 fun c s3 hhx=>?_) h1;obtain ⟨x,H1,I1,r1,q1⟩:=hhx;obtain ⟨d,rfl,q⟩:=q1
 cases r1
 exact wpAny_truthy_bool (zn H1 I1 q)⟩
theorem bP{t:TT}(h:XW X e t):XT X e t:=⟨PW.pt h.h⟩
theorem dR{b:Expr}{pos:Pos}{tB':TT}{fQ:List Expr}(ha:XT X a tA)(hb:XW X (.BoolOp .And (b::fQ) pos) tB'):XW X (.BoolOp .And (a::b::fQ) pos) (Ie tA tB'):=⟨by
 intro wh pins s σ H Q I h;refine isTrue_and (thn (ha.h pins s σ H _ I h) fun c s1 hhx=>?_);obtain ⟨H1,I1,q1⟩:=hhx
 cases c with
 |true=>exact hb.h wh pins s1 σ H1 Q I1 q1
 |false=>exact zn H1 I1 q1⟩
theorem df{pos:Pos}(ha:XT X a tA):XW X (.BoolOp .And [a] pos) tA:=⟨by
 intro wh pins s σ H Q I h;refine isTrue_and (thn (ha.h pins s σ H Q I h) fun c s1 e=>?_)
 cases c with
 |true=>exact isTrue_and_nil e
 |false=>exact e⟩
theorem bS{b:Expr}{pos:Pos}{tB':TT}{fQ:List Expr}(ha:XT X a tA)(hb:XW X (.BoolOp .Or (b::fQ) pos) tB'):XW X (.BoolOp .Or (a::b::fQ) pos) (tOr tA tB'):=⟨by
 intro wh pins s σ H Q I h;refine isTrue_or (thn (ha.h pins s σ H _ I h) fun c s1 hhx=>?_);obtain ⟨H1,I1,q1⟩:=hhx
 cases c with
 |true=>exact zn H1 I1 q1
 |false=>exact hb.h wh pins s1 σ H1 Q I1 q1⟩
theorem cj{pos:Pos}(ha:XT X a tA):XW X (.BoolOp .Or [a] pos) tA:=⟨by
 intro wh pins s σ H Q I h;refine isTrue_or (thn (ha.h pins s σ H Q I h) fun c s1 e=>?_)
 cases c with
 |false=>exact isTrue_or_nil e
 |true=>exact e⟩
theorem ac:XA X [] qB:=⟨yv⟩
theorem aa{e:Expr}{t:TA}(ha:XE X e te)(hr:XA X es t)(hs:starEach (e::es) X.env=(false,eval e X.env)::starEach es X.env:=by rfl):XA X (e::es) (zM te t):=⟨tX ha.h hr.h hs⟩
theorem cJ:XO X none uQ:=⟨by intro pins s σ H Q I h;rw [evalPart_none];exact wpAny_pure (zAA none H I .none h)⟩
theorem bM(h:XE X e te):XO X (some e) (D1 te):=⟨by intro pins s σ H Q I hw;rw [evalPart_some];refine thn (h.h pins s σ H _ I hw) fun u s1 hhx=>?_;obtain ⟨x,H1,I1,r1,q1⟩:=hhx;obtain ⟨i,rfl,q⟩:=q1;obtain ⟨t,rfl⟩:=r1;exact zAA (some i) H1 I1 (.int i t) q⟩
theorem aH{pos:Pos}{i:Nat}(hN:X.N.Nodup)(hi:X.N[i]?=some x)(hx:Loc X.env.scope x)(hf:X.fn x=true\/X.env.scope.names.lookup x=some .local:=by first | exact .inl rfl | exact .inr rfl | assumption):XG X (.Name x pos) (c6 i):=⟨tZ hN hi hx hf⟩
theorem jD{pos:Pos}{k:Nat}{t:TGs}{n:Nat}(hc:X.calm=true)(h:XGs X es t)(hn:(assignEach es X.env).length=n:=by rfl)(hst:(assignEach es X.env).findIdx? (·.1)=none:=by rfl):XG X (.Tuple es k pos) (Fh X.K n t):=⟨by
 intro pins s σ H v u Q I r hw;obtain ⟨a,xs,e1,hq,hl,hw⟩:=hw;subst e1
 cases r
 obtain ⟨its,rv,ht,hz⟩:=I.tuple hq;refine assign_Tuple_tuple (I.ok.hd hc) ht (by simp [hn,<- hl,rv.length]) hst fun h' hx=>?_;have I1:Inv X pins σ H {s with heap:=h'}:=I.kept (t':=s.toks) fun b o e=>hx b o (cD (zq7 e)) e;exact h.h pins _ σ H xs _ Q I1 (by simpa using rv) hw⟩
theorem iK:XGs X [] Fg:=⟨by
 intro pins s σ H vs us Q I r h;obtain ⟨e,h⟩:=h;subst e
 cases r
 exact assignInOrder_nil (zAD σ H I h)⟩
theorem cN{e:Expr}{t:TG}{u:TGs}(h1:XG X e t)(h2:XGs X es u)(hs:(assignEach (e::es) X.env).map (·.2)=assign e X.env::(assignEach es X.env).map (·.2):=by rfl):XGs X (e::es) (CC t u):=⟨by
 intro pins s σ H vs us Q I r h;obtain ⟨v,vr,e1,h⟩:=h;subst e1
 cases r with
 |cons r rr=>rw [hs];refine assignInOrder_cons (thn (h1.h pins s σ H _ _ _ I r h) fun _ s1 hhx=>?_);obtain ⟨σ1,H1,I1,q1⟩:=hhx;exact h2.h pins s1 σ1 H1 _ _ Q I1 rr q1⟩
theorem nG{pos:Pos}{ti:TE}{t:x8}(ho:XE X o to)(hi:XE X i ti)(hs:Dd X t)(ha:∀v,assign (.Subscript o i pos) X.env v=(do
 let ov <- holding [v] (eval o X.env)
 let iv <- holding [v,ov] (eval i X.env)
 standAt pos
 holding [v,ov,iv] (setItem ov iv v)
 release [v,ov,iv] []):=by intro _;rfl):XG X (.Subscript o i pos) (Do to ti t):=⟨DV ho.h hi.h hs ha⟩
theorem bX{tg:Expr}{ta:TA}{pos:Pos}(hg:Gl X "range") (hm:X.mg "range"=none) (ha:XA X [a] ta) (hs:starEach [a] X.env=[(false,eval a X.env)]:=by rfl):XI X tg (.Call (.Name "range" p) [a] [] pos) (CG ta):=⟨by
 intro pins s σ H R I h;refine Call_ (dH I hg hm boot_range (PyProof.Rows.callWith_type1 (thn (ha.h pos pins s σ H _ I h) fun us s1 hhx=>?_) hs rfl));obtain ⟨vs,H1,I1,r1,q1⟩:=hhx;obtain ⟨j,e,q1,q2,q⟩:=q1;subst e
 cases r1 with
 |cons r rr=>
  cases rr
  obtain ⟨t,rfl⟩:=r;exact call_range_1 (pL I1 Jn Jn q1 q2 (by simpa using q))⟩
theorem sr{tg:Expr}{ta:TA}{pos:Pos}(hg:Gl X "range") (hm:X.mg "range"=none) (ha:XA X [a,b] ta) (hs:starEach [a,b] X.env=[(false,eval a X.env),(false,eval b X.env)]:=by rfl) (hs2:starEach [b] X.env=[(false,eval b X.env)]:=by rfl):XI X tg (.Call (.Name "range" p) [a,b] [] pos) (xK ta):=⟨wj hg hm ha.h hs hs2⟩
theorem A6{ta:TA}{pos pos0:Pos}{elts:List Expr}{k0:Nat}(hm:X.mg "enumerate"=none) (ha:XA X [a] ta) (hg:Gl X "enumerate":=by rfl) (hs:starEach [a] X.env=[(false,eval a X.env)]:=by rfl):XI X (.Tuple elts k0 pos0) (.Call (.Name "enumerate" p) [a] [] pos) (xJ X.K ta):=⟨BF hm ha.h hg hs⟩
theorem b9{tg:Expr}{l:Expr}{tl:TE}(hl:XE X l tl):XI X tg l (CF X.K tl):=⟨by
 intro pins s σ H R I h;refine thn (hl.h pins s σ H _ I h) fun v s1 hhx=>?_;obtain ⟨x,H1,I1,r1,q1⟩:=hhx;obtain ⟨a,e,⟨xs,hq⟩,q⟩:=q1;subst e
 cases r1
 obtain ⟨its,rv,p,hz⟩:=I1.list hq;refine wpAny_pyIter_list p.isList ?_;refine zAV s1.heap.objs.size ([s1.heap.objs.size]) _ _ H1 rfl (I1.kept (t':=s1.toks) fun b o e=>cy _ e) (wQ a _) (zAC _ (dy _ rfl) rfl rfl) (fun b hb=>?_) q;have e:b=s1.heap.objs.size:=by simpa using hb
 subst e;exact I1.fpOk (zq0 _) (I1.hok.fresh (zq0 _))⟩
theorem jE{tg:Expr}{l:Expr}{tl:TE}(hl:XE X l tl):XI X tg l (Fi X.K tl):=⟨by
 intro pins s σ H R I h;refine thn (hl.h pins s σ H _ I h) fun v s1 hhx=>?_;obtain ⟨x,H1,I1,r1,q1⟩:=hhx;obtain ⟨a,e,⟨xs,hq⟩,q⟩:=q1;subst e
 cases r1
 obtain ⟨its,rv,p,hz⟩:=I1.tuple hq;refine wpAny_pyIter_tuple (show s1.heap.IsTuple a its.toArray from p) ?_;refine zAV s1.heap.objs.size ([s1.heap.objs.size]) _ _ H1 rfl (I1.kept (t':=s1.toks) fun b o e=>cy _ e) (se a _) (zAC _ (dy _ rfl) rfl rfl) (fun b hb=>?_) q;have e:b=s1.heap.objs.size:=by simpa using hb
 subst e;exact I1.fpOk (zq0 _) (I1.hok.fresh (zq0 _))⟩
theorem ay{pos:Pos}{i:Nat}(hN:X.N.Nodup)(hi:X.N[i]?=some x)(hx:Loc X.env.scope x)(he:XE X e te)(hs:swapsWith e (some (.Name x pos')) pos.line X.env=pure false:=by rfl)(hf:X.fn x=true\/X.env.scope.names.lookup x=some .local:=by first | exact .inl rfl | exact .inr rfl | assumption):XS X (.Assign [.Name x pos'] e pos) (Cd te (c6 i)):=⟨E1 hN hi hx he.h hs hf⟩
theorem d5{i:Nat}{px:Pos}{elt tgt:Expr}{ifs:List Expr}{pos:Pos}{scope:Scope}{g:Bk->TG}{tt:Bk->TT}{te:Bk->TE}{tns cns:List Str}{ci:List Nat}(hN:X.N.Nodup)(hx:X.N[i]?=some x)(hl:Loc X.env.scope x)(hf:X.fn x=true)(hsw:swapsWith (.ListComp elt [⟨tgt,iter,ifs,0⟩] scope pos) (some (.Name x px)) pos'.line X.env=pure true)(hc:X.calm=true)(S:CompSc X scope cns ci)(hi:XI X tgt iter wi)(hg:∀bk:Bk,XG (X.blk (".0"::(tns++cns)) scope bk) tgt (g bk)) (ht:∀bk:Bk,xb (X.blk (".0"::(tns++cns)) scope bk) ifs (tt bk)) (he:∀bk:Bk,XE (X.blk (".0"::(tns++cns)) scope bk) elt (te bk)) (hs:∀v,foldedSetIterable iter X.env v=pure v:=by intro _;rfl):XS X (.Assign [.Name x px] (.ListComp elt [⟨tgt,iter,ifs,0⟩] scope pos) pos') (kC i wi g tt te tns.length ci):=⟨rK hN hx hl hf hsw hc S hi.h (fun bk=>(hg bk).h) (fun bk=>(ht bk).h) (fun bk=>(he bk).h) hs⟩
theorem jF{pos:Pos}{tg:Expr}{g:TG}(he:XE X e te)(hg:XG X tg g)(hs:swapsWithSole [tg] e pos.line X.env=pure false:=by rfl)(hw:swappedStores [tg] e X.env=pure none:=by rfl)(h1:(assignEach [tg] X.env).map (·.2)=[assign tg X.env]:=by rfl):XS X (.Assign [tg] e pos) (Cd te g):=⟨by intro pins s σ H D I h;refine wpAny_Assign_stores (thn (he.h pins s σ H _ I h) fun v s1 hhx=>?_) hs hw;obtain ⟨x,H1,I1,r1,q1⟩:=hhx;rw [h1];exact thn (hg.h pins s1 σ H1 x v _ I1 r1 q1) fun _ s2 q=>q⟩
theorem bR{value:Expr}{f:Str}{pos:Pos}{tv:TE}(ha:XE X o ta)(hv:XE X value tv)(hs:swapsWith value (some (.Attribute o f pos')) pos.line X.env=pure false):XS X (.Assign [.Attribute o f pos'] value pos) (Gm X.K ta tv f):=⟨by intro pins s σ H D I h;refine plainObj_wpAny_Assign_Attribute (thn (hv.h pins s σ H _ I h) fun u s1 ⟨y,H1,I1,ry,q⟩=>thn (ha.h pins s1 σ H1 _ I1 q) fun ov s2 hhx=>?_) hs;obtain ⟨x,H2,I2,rx,a,C,dx,fs,ex,ea,c,n,l,q2⟩:=hhx;subst ex;obtain rfl:ov=Value.ref a:=rx;exact rS I2 ea c n l ry fun s3 I3=>zAD σ _ I3 q2⟩
theorem de{value:Expr}{pos:Pos}{td ty tv:TE}(hu:X.A.units+1<cLine)(ho:XE X o td)(hi:XE X i ty)(hv:XE X value tv)(hs:swapsWith value (some (.Subscript o i pos')) pos.line X.env=pure false):XS X (.Assign [.Subscript o i pos'] value pos) (zt td ty tv):=⟨BG hu ho.h hi.h hv.h hs⟩
theorem au{pos:Pos}(he:XE X e te):XS X (.Return (some e) pos) (zQ te):=⟨by intro pins s σ H D I h;exact wpAny_Return_some (thn (he.h pins s σ H _ I h) fun v s1 ⟨x,H1,I1,r1,q1⟩=>zAO x σ H1 I1 r1 q1)⟩
theorem aY{pos:Pos}(he:XE X e te)(hs:swapsWith e none pos.line X.env=pure false:=by rfl):XS X (.Expr e pos) (CY te):=⟨by intro pins s σ H D I h;exact wpAny_Expr_any (thn (he.h pins s σ H _ I h) fun v s1 ⟨x,H1,I1,r1,q1⟩=>zAD σ H1 I1 q1) I.quiet hs⟩
theorem aG{t u:TS}{pos:Pos}{a b:List Stmt}{tc:TT}(hc:XT X c tc)(ha:XSs X a t)(hb:XSs X b u):XS X (.If c a b pos) (EW tc t u):=⟨by
 intro pins s σ H D I h;refine wpAny_If (thn (hc.h pins s σ H _ I h) fun d s1 hhx=>?_);obtain ⟨H1,I1,q1⟩:=hhx
 cases d with
 |true=>exact ha.h pins s1 σ H1 D I1 q1
 |false=>exact hb.h pins s1 σ H1 D I1 q1⟩
theorem fm{pos:Pos}{body:List Stmt}{tc:TT}{tb:TS}(hp:PassesOwn (model X.prog X.w) X.A X.env X.xe)(hc:XT X c tc)(hb:XSs X body tb):XS X (.While c body [] pos) (zR tc tb):=⟨by
 intro pins s σ H D I h;obtain ⟨W,⟨m0,w0⟩,turn⟩:=h;refine wpAny_While (codeAny_whileLoop (fun n s'=>∃σ' H',Inv X pins σ' H' s'/\W n σ' H') ?_ m0 (zAD σ H I w0));rintro n s1 ⟨σ1,H1,I1,w1⟩;refine wpAny_passesOwn hp (thn (hc.h pins s1 σ1 H1 _ I1 (turn n σ1 H1 w1)) fun b s2 hhx=>?_);obtain ⟨H2,I2,q2⟩:=hhx
 cases b with
 |true=>
  obtain ⟨N,hN,q2⟩:=q2;rw [if_pos rfl];refine wpAny_passesOwn hp (thn (hb.h pins s2 σ1 H2 _ I2 q2) fun f s3 q3=>?_)
  cases f with
  |next=>
   obtain ⟨σ3,H3,I3,n3⟩:=q3;obtain ⟨m',hm,w3⟩:=hN σ3 H3 n3;exact zn m' hm (zAD σ3 H3 I3 w3)
  |cont=>
   obtain ⟨σ3,H3,I3,n3⟩:=q3;obtain ⟨m',hm,w3⟩:=hN σ3 H3 n3;exact zn m' hm (zAD σ3 H3 I3 w3)
  |brk=>exact q3
  |ret v=>exact q3
 |false=>rw [if_neg zq6];exact wpAny_execs_nil (zAD σ1 H2 I2 q2)⟩
theorem bu{tg:Expr}{body:List Stmt}{g:TG}{tb:TS}{pos:Pos}(hp:PassesOwn (model X.prog X.w) X.A X.env X.xe)(hc:X.calm=true)(hi:XI X tg iter wi)(hg:XG X tg g)(hb:XSs X body tb)(hs:∀x,foldedSetIterable iter X.env x=pure x:=by intro _;rfl):XS X (.For tg iter body [] pos) (EV wi g tb):=⟨DZ hp hc hi.h hg.h hb.h hs⟩
theorem aC:XSs X [] CZ:=⟨fun _ _ σ H _ I h=>wpAny_execs_nil (zAD σ H I h)⟩
theorem ak{st:Stmt}{t:TS}(h1:XS X st t):XSs X [st] t:=⟨by
 intro pins s σ H D I h;refine wpAny_execs_cons (thn (h1.h pins s σ H D I h) fun f s1 q=>?_)
 cases f with
 |next=>exact wpAny_execs_nil q
 |ret v=>exact q
 |brk=>exact q
 |cont=>exact q⟩
theorem ai{st:Stmt}{fQ:List Stmt}{t u:TS}(h1:XS X st t)(h2:XSs X fQ u):XSs X (st::fQ) (EY t u):=⟨by
 intro pins s σ H D I h;refine wpAny_execs_cons (thn (h1.h pins s σ H {D with nx:=u D} I h) fun f s1 q=>?_)
 cases f with
 |next=>
  obtain ⟨σ',H',I',q⟩:=q;exact h2.h pins s1 σ' H' D I' q
 |ret v=>exact q
 |brk=>exact q
 |cont=>exact q⟩
theorem bA{st:Stmt}{ss:List Stmt}{ta tb:TS}(h1:XS X st ta)(h2:XSs X ss tb):XSs X (st::ss) (EX ta tb):=⟨by
 intro pins s σ H D I h;obtain ⟨Mid,a,b⟩:=h;refine wpAny_execs_cons (thn (h1.h pins s σ H {D with nx:=Mid} I a) fun f s1 q=>?_)
 cases f with
 |next=>
  obtain ⟨σ',H',I',q⟩:=q;exact h2.h pins s1 σ' H' D I' (b σ' H' q)
 |ret v=>exact q
 |brk=>exact q
 |cont=>exact q⟩
theorem cC:xb X [] j1:=⟨fun pins s σ H Q I h=>wpAny_tests_nil (zn H I h)⟩
theorem iJ{t:TT}(h:XT X c t):xb X [c] t:=⟨fun pins s σ H Q I q=>wpAny_tests_one (h.h pins s σ H Q I q)⟩
theorem si{td ty:TE}(hu:X.A.units+1<cLine)(hi:XE X i ty)(ho:XE X o td):XC X .NotIn i o (uO ty td):=⟨by intro pins s σ H Q I h;refine thn (hi.h pins s σ H _ I h) fun iv s1 ⟨y,H1,I1,ry,q1⟩=>thn (ho.h pins s1 σ H1 _ I1 q1) fun u s2 hhx=>?_;obtain ⟨x,H2,I2,rx,a,ov,ex,g,q2⟩:=hhx;subst ex;obtain rfl:u=Value.ref a:=rx;exact B3 hu I2 g ry fun s3 I3=>zAA (.bl (!ov.isSome)) H2 I3 rfl q2⟩
theorem Ip{CX:CXT}{k:Nat}{C:Addr}{fd:FuncData}{dvs:List V}{ds:List Value}{E:XK}{m:Str}{pos:Pos}{e:Expr}{t:TA}{pl:Sem Bool}(he:XE X o ta)(c:Cls X.K C)(hm:vg X.K C m f)(F:FnOk X.prog X.w X.K X.mg X.base CX k f fd ps sp)(hr:Room k X.A)(hb:Binds X.K fd ps ds)(hd:Vals dvs ds)(hx:fq CX X E)(ha:XA X (e::es) t)(hst:starEach (e::es) X.env=(false,eval e X.env)::starEach es X.env:=by rfl)(hpl:(backTo pos (starEach es X.env)).any (·.1)=false:=by rfl)(ht:eval (.Call (.Attribute o m apos) (e::es) [] pos) X.env=(do
 let ov <- eval o X.env
 standAt apos.atName
 let (f,first) <- holding [ov] (getMethod ov m pl)
 callWith pos f first (backTo pos (starEach (e::es) X.env)) (backToKw pos (keywordEach [] X.env))):=by rfl):XE X (.Call (.Attribute o m apos) (e::es) [] pos) (iH C m sp dvs E ta t):=⟨tY he.h c hm F hr hb hd hx ha.h hst hpl ht⟩
theorem gH{k:Nat}{C:Addr}{fd:FuncData}{st:Stmt}{pos:Pos}{e:Expr}{t:TA}(c:KlsAt X.K X.mg x C)(D:bz X.K C "__init__" qual st ps f fd) (G:FnOk X.prog X.w X.K X.mg X.base CX0 k f fd ps sp) (hr:Room (k+1) X.A) (ha:XA X (e::es) t) (hg:Gl X x) (hdb:(x==("__debug__":Str))=false:=by kernel_rfl) (he:starEach (e::es) X.env=(false,eval e X.env)::starEach es X.env:=by rfl) (hpl:(backTo pos (starEach es X.env)).any (·.1)=false:=by rfl):XE X (.Call (.Name x p) (e::es) [] pos) (kL C sp [] E0 t):=⟨yK c D G hr ha.h hg hdb he hpl⟩
theorem su{k:Nat}{C:Addr}{fd:FuncData}{st:Stmt}{pos:Pos}(c:KlsAt X.K X.mg x C)(D:bz X.K C "__init__" qual st ps f fd) (G:FnOk X.prog X.w X.K X.mg X.base CX0 k f fd ps sp) (hr:Room (k+1) X.A) (hg:Gl X x) (hdb:(x==("__debug__":Str))=false:=by kernel_rfl):XE X (.Call (.Name x p) [] [] pos) (kL C sp [] E0 qB):=⟨yB (c.make D) G hr hg c.M D.B .nil pG hdb⟩
theorem aX{k:Nat}{C:Addr}{fd:FuncData}{m:Str}{st:Stmt}{pos:Pos}{e:Expr}{t:TA}{pl:Sem Bool}(c:Cls X.K C)(D:bz X.K C m qual st ps f fd)(G:FnOk X.prog X.w X.K X.mg X.base CX0 k f fd ps sp)(hr:Room k X.A)(he:XE X o ta)(ha:XA X (e::es) t)(hst:starEach (e::es) X.env=(false,eval e X.env)::starEach es X.env:=by rfl)(hpl:(backTo pos (starEach es X.env)).any (·.1)=false:=by rfl)(ht:eval (.Call (.Attribute o m apos) (e::es) [] pos) X.env=(do
 let ov <- eval o X.env
 standAt apos.atName
 let (f,first) <- holding [ov] (getMethod ov m pl)
 callWith pos f first (backTo pos (starEach (e::es) X.env)) (backToKw pos (keywordEach [] X.env))):=by rfl):XE X (.Call (.Attribute o m apos) (e::es) [] pos) (iH C m sp [] E0 ta t):=⟨yL c D G hr he.h ha.h hst hpl ht⟩
theorem dw{k:Nat}{C:Addr}{fd:FuncData}{m:Str}{st:Stmt}{pos:Pos}{pl:Sem Bool}(c:Cls X.K C)(D:bz X.K C m qual st ps f fd)(G:FnOk X.prog X.w X.K X.mg X.base CX0 k f fd ps sp)(hr:Room k X.A)(he:XE X o ta)(ht:eval (.Call (.Attribute o m apos) [] [] pos) X.env=(do
 let ov <- eval o X.env
 standAt apos.atName
 let (f,first) <- holding [ov] (getMethod ov m pl)
 callWith pos f first (backTo pos (starEach [] X.env)) (backToKw pos (keywordEach [] X.env))):=by rfl):XE X (.Call (.Attribute o m apos) [] [] pos) (iH C m sp [] E0 ta qB):=⟨wl c D G hr he.h ht⟩
theorem fk{vs:List V}(h:jt es=some vs):XA X es (tVs vs):=⟨pF h⟩
end L2
namespace L2
theorem Cm  {X:Cx} {tg a:Expr} {ta:TA} {p pos:Pos} (hm:X.mg "reversed"=none) (ha:XA X [a] ta) (hg:Gl X "reversed":=by rfl) (hs:starEach [a] X.env=[(false,eval a X.env)]:=by rfl):XI X tg (.Call (.Name "reversed" p) [a] [] pos) (Dt X.K ta):=⟨DW hm ha.h hg hs⟩
theorem jk  {X:Cx} {a:Expr} {ta:TA} {p p2 pos pos2:Pos} (hc:X.calm=true) (hm:X.mg "list"=none) (hm2:X.mg "reversed"=none) (ha:XA X [a] ta) (hg:Gl X "list") (hg2:Gl X "reversed") (hs:starEach [a] X.env=[(false,eval a X.env)]:=by rfl) (hs2:starEach [.Call (.Name "reversed" p2) [a] [] pos2] X.env=[(false,eval (.Call (.Name "reversed" p2) [a] [] pos2) X.env)]:=by rfl):XE X (.Call (.Name "list" p) [.Call (.Name "reversed" p2) [a] [] pos2] [] pos) (kK X.K ta):=⟨rH hc hm hm2 ha.h hg hg2 hs hs2⟩
end L2
namespace L2
section
variable {X:Cx}
def B2(x:V)(xs:List V):Nat:=xs.countP fun y=>eqV y x
def yM(K:W.Frag):V->List V->Hp->VK->Prop:=fun x vs H Q=>∃l xs y,x=.ref l/\vs=[y]/\SqL K H l xs/\bH y=true/\xs.all bH=true/\Q (.int (B2 y xs)) H
theorem lP{x:V}:∀{xs:List V} {us:List Value},Vals xs us->xs.all bH=true->us.countP (eqU x)=xs.countP fun y=>eqV y x
 |_,_,.nil,_=>rfl
 |x'::xs,_,.cons h t,f=>by rw [sC,dF] at f;rw [List.countP_cons,List.countP_cons,lP t f.2,rf h f.1]
theorem xX:MtM X "list.count" (yM X.K):=by
 intro pins s σ H x vs v us Q I rx rv h;obtain ⟨l,xs,y,rfl,rfl,hq,fy,fx,q⟩:=h
 cases rx
 obtain ⟨u,rfl,ru⟩:=rv.one;obtain ⟨its,r,pl,_⟩:=I.list hq;obtain ⟨o,n,e,c,hd,hdt⟩:=id pl;obtain ⟨oc,od,odt,osl⟩:=o;simp only at c hd hdt;subst c hd hdt;refine call_meets F.slot_list_count (zn _ e rfl) F.entry_list_count (F.args_list_count_2 _ _) (SeqAt.list_countAt l its.toArray n none osl u (eqU y)) (zAB e (fun z hz=>eY ru fy r fx z (by simpa using hz)) ?_);rw [show its.toArray.toList=its from rfl,lP r fx];exact zAA (.int _) H (I.tok _) ⟨_,rfl⟩ q
theorem vE{acc:Array Value}{n:Nat}(h:ItemsOf (fun i v=>∃t,v=Value.int (0+(i:Int) * 1) t) acc n):Vals ((List.range n).map fun i:Nat=>V.int i) acc.toList:=by
 obtain ⟨h1,h2⟩:=h;subst h1;rw [<- Ah];have g:∀(l:List Value)(k:Nat),(∀(i:Nat)v,l[i]?=some v->∃t,v=Value.int ((k+i:Nat):Int) t)->Vals ((List.range' k l.length).map fun i:Nat=>V.int i) l:=by
  intro l
  induction l with
  |nil=>intro k _;exact .nil
  |cons a l ih=>
   intro k hl;refine .cons ?_ (ih (k+1) fun i v hv=>?_)
   ·obtain ⟨t,e⟩:=hl 0 a rfl;exact ⟨t,e⟩
   ·obtain ⟨t,e⟩:=hl (i+1) v hv;exact ⟨t,by rw [e];congr 1;omega⟩
 have z:=g acc.toList 0 fun i v hv=>by obtain ⟨t,e⟩:=h2 i v (by rw [<- hv,Aj]);exact ⟨t,by rw [e];congr 1;omega⟩
 rw [List.range_eq_range'];exact z
end
def Dw(pr:Params):Key->Int
 | .inl k=>hashInt k
 | .inr x=>if x.cps.isEmpty=true then 0 else reduceHash (pr.strHash x.cps)
def nM(K:W.Frag)(pr:Params)(a:Addr)(kvs:List (Key×V)):Prop:=∃(es:List DictEntry)(ep:Nat),K.lookup a=some ⟨.type "dict",none,.dict es.toArray ep,#[]⟩/\(a==sysModules)=false/\(kvs.map (·.1)).Nodup/\Paired (fun (kv:Key×V) (e:DictEntry)=>jf kv.1 e.key=true/\e.hash=Dw pr kv.1/\RelV kv.2 e.val) kvs es
theorem jd{P:Program}{w:World}:∀{kvs:List (Key×V)} {es:List DictEntry},Paired (fun (kv:Key×V) (e:DictEntry)=>jf kv.1 e.key=true/\e.hash=Dw w.params kv.1/\RelV kv.2 e.val) kvs es->
  ∃vs:List (Key×Value),KV kvs vs/\Pairs (bi P w) es vs/\∀e∈es,∃k,(bi P w).is k e.key=true/\e.hash=(bi P w).hash k
 |_,_,.nil=>zAC ([]) .nil .nil Jo
 |kv::kvs,e::es,.cons h t=>by
  obtain ⟨vs,r,p,q⟩:=jd (P:=P) t;obtain ⟨h1,h2,h3⟩:=h;refine zAC ((kv.1,e.val)::vs) (.cons ⟨rfl,h3⟩ r) (.cons h1 rfl p) fun e' he=>?_;rcases zq5.mp he with z | z
  ·subst z;refine zn kv.1 h1 (h2.trans ?_);obtain ⟨k,v⟩:=kv
   cases k<;>rfl
  ·exact q e' z
theorem oE{X:Cx}{pins:List (Addr×Obj)}{σ:St}{H:Hp}{s:Shared}{a:Addr}{kvs:List (Key×V)}{pr:Params}(hw:pr=X.w.params)(I:Inv X pins σ H s)(D:nM X.K pr a kvs):(a==sysModules)=false/\∃vs,KV kvs vs/\s.heap.DictOf (bi X.prog X.w) a vs:=by subst hw;obtain ⟨es,ep,hk,hd,nd,pr⟩:=D;obtain ⟨vs,r,p,q⟩:=jd (P:=X.prog) pr;refine ⟨hd,zn vs r (zBG _ es.toArray ep (I.kIn a _ hk) (zAB rfl rfl rfl) rfl (fun e he=>q e (by simpa using he)) p ?_)⟩;rw [<- r.keys];exact nd
def rX(kvs:List (Key×V))(ty:TE):TE:=fun σ H Q=>ty σ H fun y H1=>∃k,y=kV k/\Q ((bI kvs k).getD .non) H1
section
variable {X:Cx} {e:Expr} {x:Str} {p apos cpos:Pos} {ty:TE} {a:Addr} {kvs:List (Key×V)} {pr:Params}
theorem yJ(hw:pr=X.w.params)(D:nM X.K pr a kvs)(hm:X.mg x=some (.ref a))(hg:Gl X x)(he:PE X e ty)(m:M1 X (.Name x p) "get" apos e cpos) (hdb:(x==("__debug__":Str))=false:=by kernel_rfl) :
  PE X (.Call (.Attribute (.Name x p) "get" apos) [e] [] cpos) (rX kvs ty):=by
 intro pins s σ H Q I h;refine wpAny_Call_method m.base m.few m.line PySem.F.plainAttrs_dict PySem.F.slot_dict_get PySem.F.type_dict_get (iq I hg hm ?_ hdb);obtain ⟨hd,vs,rel,dd⟩:=oE hw I D;refine zAB dd.typeIs (fun b q=>?_) ?_
 ·cases q
  obtain ⟨ob,_,_,h1,h2,_⟩:=dd;exact zn ob h1 h2.2.1
 rw [m.trees];refine Calls.callWith_builtin rfl (Calls.evalArgs_plain (Calls.spliced_cons (thn (he pins s σ H _ I h) fun iv s2 ⟨y,H2,I2,ry,k,ek,q2⟩=>Calls.spliced_nil ?_)));subst ek;obtain ⟨hd,vs,rel,dd⟩:=oE hw I2 D;refine call_meetsIn PySem.F.slot_dict_get dd.typeIs PySem.F.entry_dict_get (PySem.F.args_dict_get_2 _ _) (meets_dict_get (bi X.prog X.w) a (lS ry) hd) (zn _ dd.mapOf (zAA _ H2 (I2.tok _) ((rel.val k).getD (show RelV .non .none from rfl)) q2))
theorem wY(hw:pr=X.w.params)(D:nM X.K pr a kvs)(hm:X.mg x=some (.ref a))(hg:Gl X x)(he:XE X e ty)(m:M1 X (.Name x p) "get" apos e cpos) (hdb:(x==("__debug__":Str))=false:=by kernel_rfl) :
  XE X (.Call (.Attribute (.Name x p) "get" apos) [e] [] cpos) (rX kvs ty):=⟨yJ hw D hm hg he.h m hdb⟩
theorem BY{kvs:List (Key×V)}{ty:TE}{σ:St}{H:Hp}{Q:VK}:rX kvs ty σ H Q=ty σ H fun y H1=>∃k,y=kV k/\Q ((bI kvs k).getD .non) H1:=rfl
end
end L2
namespace L2
section
variable {prog:Program} {w:World} {A:Around} {E:Value->Shared->Prop} {s:Shared}
open AutoSeq1 (wpAny_loadPart') in
end
section
variable {K:W.Frag} {a:Addr} {xs:List V}
end
section
variable {K:W.Frag} {a b:Addr} {H:Hp} {Q:VK}
theorem zg:uc K [.ref a] H Q=∃ns:List Int,SqL K H a (ns.map V.int)/\ns.length<64/\∀(l:Addr)(ns':List Int),H l=none->ns'.Perm ns->ns'.Pairwise (·<=·)->Q (.ref l) (upd H l (.lst (ns'.map V.int))):=propext ⟨by rintro ⟨_,ns,e,q⟩;cases e;exact ⟨ns,q⟩,by rintro ⟨ns,q⟩;exact zAD a ns rfl q⟩
theorem FK:Fx K [.ref a] H Q=∃bs:List Bool,SqL K H a (bs.map V.bl)/\Q (.bl (bs.any id)) H:=propext ⟨by rintro ⟨_,ns,e,q⟩;cases e;exact ⟨ns,q⟩,by rintro ⟨ns,q⟩;exact zAD a ns rfl q⟩
theorem BL{y:V}:yM K (.ref a) [y] H Q=∃xs,SqL K H a xs/\bH y=true/\xs.all bH=true/\Q (.int (B2 y xs)) H:=propext ⟨by rintro ⟨_,xs,_,e1,e2,q⟩;cases e1;cases e2;exact ⟨xs,q⟩,by rintro ⟨xs,q⟩;exact zAO a xs y rfl rfl q⟩
end
end L2
namespace L2
def Cx.blkZ(X:Cx)(z0:Str)(N':List Str)(scope:Scope)(b:Bk):Cx:=
 {prog:=X.prog,w:=X.w,K:=X.K,mg:=X.mg,base:=X.base,A:=X.A,N:=N',s₀:=b.s₂,H₀:=b.H₂,env:=compEnvC scope ((z0,b.C+1)::d7 X.env.cells scope.names []) b.C X.env,outer:=X.stack,stack:=X.stack,ex:=b.fp,fn:=fun x=>x==z0,calm:=X.calm,pn:=[],xe:=fun _ _=>False}
theorem Df{X:Cx}{z0:Str}{N':List Str}{scope:Scope}{b:Bk}:(X.blkZ z0 N' scope b).K=X.K:=rfl
structure CompScZ(X:Cx)(z0:Str)(scope:Scope)(cns:List Str)(ci:List Nat):Prop where
 kind:scope.kind=.function
 names:∀y∈scope.names,y.2=.local->scope.names.lookup y.1=some .local
 free:∀y∈scope.names,y.2=.free->X.env.kindOf y.1=some .cell\/X.env.kindOf y.1=some .free
 cap:∀(j:Nat)x,cns[j]?=some x->∃i,ci[j]?=some i/\X.N[i]?=some x/\(x,NameKind.free)∈scope.names
 len:cns.length=ci.length
 noloc:∀y,(y,NameKind.free)∈scope.names->¬(relabel scope X.env).names.lookup y=some .local
 nofree:(z0,NameKind.free)∉scope.names
 seen:∀y,(relabel scope X.env).names.lookup y=some .cell\/(relabel scope X.env).names.lookup y=some .free->y=z0\/(y,NameKind.free)∈scope.names
 cells:∀n acc,cellsFrom n scope.names acc=(z0,n)::acc
 push:∀h,pushCells h scope.names=h.push {cls:=.type "cell",data:=.cell none}
section
variable {M:Model} {A:Around} {E:Value->Shared->Prop} {s:Shared}
theorem jp{scope:Scope}{globals:Addr}{closure:List (Str×Addr)}{qual:Str}{outer:Env}{z0:Str}{Q:Env->Shared->Prop}
  (hc:∀n acc,cellsFrom n scope.names acc=(z0,n)::acc) (hp:∀h,pushCells h scope.names=h.push {cls:=.type "cell",data:=.cell none})
  (hQ:Q {scope:=scope,locals:=s.heap.objs.size,globals:=globals,cells:=(z0,s.heap.objs.size+1)::closure,qual:=qual,func:=none,code:=outer.code,frame:=outer.frame,builtins:=outer.builtins}
   {s with heap:=(s.heap.push {cls:=.type "dict",data:=.dict #[]}).push {cls:=.type "cell",data:=.cell none}}) :
  wpAny M A (newFunctionEnv scope globals closure [] qual none .none (some outer)) Q E s:=by
 simp only [newFunctionEnv,Option.isSome_some,if_true];refine wpAny_bind (wpAny_alloc ?_);refine wpAny_bind (wpAny_layCells _ (fun name kind cells=>by cases hkc:kind==NameKind.cell<;>simp [hkc]) _ _ _ _ ?_);rw [hc,hp,show ({s with heap:=s.heap.push {cls:=.type "dict",data:=.dict #[]}}:Shared).heap.objs.size=s.heap.objs.size+1 from lj ..];refine wpAny_bind ?_;rw [List.forIn_nil];exact wpAny_pure (wpAny_pure hQ)
end
theorem qU{X:Cx}{elt iter tgt:Expr}{ifs:List Expr}{pos:Pos}{scope:Scope}{z0:Str}{g:Bk->TG}{tt:Bk->TT}{te:Bk->TE}{tns cns:List Str}{ci:List Nat}{RR:Value->Addr->Result->Shared->Prop}{E:Value->Shared->Prop}
  {pins:List (Addr×Obj)} {σ:St} {H2:Hp} {s2:Shared} {it:Addr} {fp:List Addr} {tn:Nat->Heap->Prop} {J:It} {Q:Addr->Hp->Prop}
  (hc:X.calm=true) (S:CompScZ X z0 scope cns ci)
  (hg:∀bk:Bk,PG (X.blkZ z0 (".0"::(tns++cns)) scope bk) tgt (g bk))
  (ht:∀bk:Bk,vh (X.blkZ z0 (".0"::(tns++cns)) scope bk) ifs (tt bk))
  (he:∀bk:Bk,PE (X.blkZ z0 (".0"::(tns++cns)) scope bk) elt (te bk))
  (I2:Inv X pins σ H2 s2) (T:jJ X.prog X.w X.K tgt J fp it tn) (st2:tn 0 s2.heap) (f2:∀b∈fp,jl X pins H2 b)
  (hcw:∀acc,H2 acc=none->∀bk:Bk,ck J (g bk) (tt bk) (te bk) tns.length ci σ acc (Q acc) (upd H2 acc (.lst [])))
  (fin:∀D C s5 H4 m,Inv X pins σ H4 s5->s5.heap.Ns C m->jl X pins H4 C->Q D H4->RR (.ref D) C (.ok .next) s5) :
  wpAny (model X.prog X.w) X.A (newList []) (fun acc s₃=>wpAny (model X.prog X.w) X.A (newFunctionEnv scope X.env.globals (d7 X.env.cells scope.names []) [] X.env.qual none .none (some X.env)) (fun cenv s₄=>codeAny (model X.prog X.w) X.A (.compStart (.ListComp elt [⟨tgt,iter,ifs,0⟩] scope pos) 0 (.ref it) acc {cenv with scope:=relabel scope X.env}) (RR acc cenv.locals) s₄) E s₃) E s2:=by
 have hfc:∀y∈scope.names,y.2=.free->∃c,X.env.cells.lookup y.1=some c:=fun y hy hk=>I2.ok.has _ (S.free y hy hk);have hsub:∀y c,(d7 X.env.cells scope.names []).lookup y=some c->X.env.cells.lookup y=some c:=ie hfc (fun y c e=>by simp at e);refine wpAny_newObj_type (jp S.cells S.push ?_);dsimp only;generalize hH2:s2.heap.push {cls:=.type "list",dict:=none,data:=.seq ([]:List Value).toArray}=G2;have hCz:G2.objs.size=s2.heap.objs.size+1:=by rw [<- hH2,lj]
 have hns₁:((G2.push {cls:=.type "dict",data:=.dict #[]}).push {cls:=.type "cell",data:=.cell none}).Ns G2.objs.size (fun _=>none):=(Heap.Ns.new G2 (.type "dict")).keeps fun b o e=>cy _ e;have hcl₁:((G2.push {cls:=.type "dict",data:=.dict #[]}).push {cls:=.type "cell",data:=.cell none}).IsCell (G2.objs.size+1) none:=by refine zn ({cls:=.type "cell",data:=.cell none}) ?_ rfl;have:=dy (G2.push {cls:=.type "dict",data:=.dict #[]}) (o:={cls:=.type "cell",data:=.cell none}) rfl;rwa [lj] at this
 have keep₁:∀b o,G2.get? b=some o->((G2.push {cls:=.type "dict",data:=.dict #[]}).push {cls:=.type "cell",data:=.cell none}).get? b=some o:=fun b o e=>cy _ (cy _ e);have hsz₁:((G2.push {cls:=.type "dict",data:=.dict #[]}).push {cls:=.type "cell",data:=.cell none}).objs.size=G2.objs.size+2:=by rw [lj,lj]
 generalize hh₁:(G2.push {cls:=.type "dict",data:=.dict #[]}).push {cls:=.type "cell",data:=.cell none}=h₁ at hns₁ hcl₁ keep₁ hsz₁ ⊢;have hDC:s2.heap.objs.size≠G2.objs.size:=by rw [hCz];exact cD (Cr _)
 have below:∀b,b<s2.heap.objs.size->b≠G2.objs.size:=fun b hb=>by omega
 have old:∀b o,s2.heap.get? b=some o->h₁.get? b=some o:=fun b o e=>keep₁ b o (hH2 ▸ cy _ e);have hacc:h₁.get? s2.heap.objs.size=some {cls:=.type "list",dict:=none,data:=.seq ([]:List Value).toArray}:=keep₁ _ _ (hH2 ▸ dy _ rfl);have hnD:H2 s2.heap.objs.size=none:=I2.hok.fresh (zq0 _);have hnC:H2 G2.objs.size=none:=I2.hok.fresh Jn;have hnE:H2 (G2.objs.size+1)=none:=I2.hok.fresh Jn;obtain ⟨W,⟨m0,w0⟩,turn⟩:=hcw s2.heap.objs.size hnD ⟨G2.objs.size,fp,s2,H2⟩;have nlt:∀{b:Addr} {o:Obj},s2.heap.get? b=some o->b≠s2.heap.objs.size:=fun q=>cD (zq7 q);have fpl:∀b∈fp,b<s2.heap.objs.size:=fun b hb=>by obtain ⟨o,e,_⟩:=T.obj _ _ st2 b hb;exact zq7 e
 have clt:∀y c,(d7 X.env.cells scope.names []).lookup y=some c->c<s2.heap.objs.size:=fun y c e=>by obtain ⟨v,q⟩:=I2.cell y c (hsub y c e);exact q.lt
 have split:∀y c,((z0,G2.objs.size+1)::d7 X.env.cells scope.names []).lookup y=some c->(y=z0/\c=G2.objs.size+1)\/(y≠z0/\(d7 X.env.cells scope.names []).lookup y=some c):=fun y c e=>by
  rw [qO] at e
  cases hb:y==z0 with
  |true=>rw [hb] at e;cases e;exact .inl ⟨by simpa using hb,rfl⟩
  |false=>rw [hb] at e;exact .inr ⟨by simpa using hb,e⟩
 have hasC:∀y,((relabel scope X.env).names.lookup y=some .cell\/(relabel scope X.env).names.lookup y=some .free)->∃c,((z0,G2.objs.size+1)::d7 X.env.cells scope.names []).lookup y=some c:=fun y hk=>by
  rw [qO]
  cases hb:y==z0 with
  |true=>exact ⟨_,rfl⟩
  |false=>
   rcases S.seen y hk with z | z
   ·subst z;simp at hb
   ·exact dY z
 have ok:(X.blkZ z0 (".0"::(tns++cns)) scope ⟨G2.objs.size,fp,s2,H2⟩).Ok:={
  mod:=I2.ok.mod
  kind:=S.kind
  glob:=I2.ok.glob
  blt:=I2.ok.blt
  above:=by show s2.heap.objs.size<=G2.objs.size;omega
  inj:=fun y z c e1 e2=>by
   rcases split y c e1 with ⟨a1,b1⟩ | ⟨a1,b1⟩<;>rcases split z c e2 with ⟨a2,b2⟩ | ⟨a2,b2⟩
   ·rw [a1,a2]
   ·subst b1;have h9:(G2.objs.size+1:Nat)<s2.heap.objs.size:=clt _ _ b2;omega
   ·subst b2;have h9:(G2.objs.size+1:Nat)<s2.heap.objs.size:=clt _ _ b1;omega
   ·exact I2.ok.inj y z c (hsub y c b1) (hsub z c b2)
  has:=fun y hk=>hasC y hk
  cab:=fun y c e e2=>by
   show s2.heap.objs.size<=c;have e':(y==z0)=true:=e;rcases split y c e2 with ⟨a1,b1⟩ | ⟨a1,b1⟩
   ·subst b1;omega
   ·exact absurd (by simpa using e') a1
  hd:=I2.ok.hd
  frames:=I2.ok.frames
  stk:=.inl rfl
  exf:=fun b hb=>⟨below b (fpl b hb),fun y c e=>by
   rcases split y c e with ⟨a1,b1⟩ | ⟨a1,b1⟩
   ·subst b1;intro h8;subst h8;have h9:(G2.objs.size+1:Nat)<s2.heap.objs.size:=fpl _ hb;omega
   ·exact (f2 b hb).2.2.2.2.1 y c (hsub y c b1)⟩
  bs:=I2.bs
  bsz:=cR I2.ok.bsz I2.sz
  noex:=fun b o e hb=>by
   rcases (f2 b hb).2.2.2.1 with z | z
   ·exact I2.ok.noex b o e z
   ·exact absurd (dS (zq7 e) (cR I2.ok.bsz z)) (nJ _)
  exfs:=fun b hb hf=>by
   rcases zq5.mp (I2.stkSub b hf) with z | z
   ·exact (f2 b hb).2.1 z
   ·exact (f2 b hb).2.2.1 z
  funs:=I2.stack
  frf:=I2.stkFree}
 have hokD:HOk X.prog X.w (upd H2 s2.heap.objs.size (.lst [])) h₁:=I2.hok.laid old (zq0 _) ⟨ce _,zAD ([]) 0 .nil hacc⟩;have clD:∀y c,((z0,G2.objs.size+1)::d7 X.env.cells scope.names []).lookup y=some c->c≠s2.heap.objs.size:=fun y c e=>by
  rcases split y c e with ⟨a1,b1⟩ | ⟨a1,b1⟩
  ·subst b1;omega
  ·exact cD (clt y c b1)
 have I3:Inv (X.blkZ z0 (".0"::(tns++cns)) scope ⟨G2.objs.size,fp,s2,H2⟩) [] (aM (List.replicate tns.length none) ci σ) (upd H2 s2.heap.objs.size (.lst [])) {s2 with heap:=h₁}:={
  ok:=ok
  os:=rfl
  bare:=I2.bare
  base:=⟨fun b o e n _ _=>old b o e,fun b o e n _ _=>⟨o.slots,old b o e⟩,fun b o e n _=>by rw [aq (nlt e)];exact n,fun b o e _=>⟨o,old b o e⟩,
   fun b ys e=>by rw [aq (ao e hnD)];exact e,fun b o u e=>by rw [aq (ao e hnD)];exact e,fun b ps e=>⟨#[],by rw [aq (ao e hnD),Array.append_empty];exact e⟩⟩
  loc:=⟨_,hns₁,fun i y v e1 e2 e3=>by
   have e1':((".0":Str)::(tns++cns))[i]?=some y:=e1;unfold aM at e2
   cases i with
   |zero=>simp at e2
   |succ i=>
    rw [Al] at e1' e2
    by_cases hi:i<tns.length
    ·rw [jr (by simpa using hi),Af,if_pos hi] at e2
     cases e2
    ·rw [j9 Jn] at e1';rw [j9 (by simp;omega),Ag] at e2;obtain ⟨q,hq,hN,hm⟩:=S.cap _ _ e1';rw [cf,hq] at e2;have e2':(σ[q]?).join=some v:=by simpa using e2
     have e4:σ[q]?=some (some v):=by
      cases z:σ[q]? with
      |none=>rw [z] at e2';cases e2'
      |some o=>rw [z] at e2';rw [show o=some v from e2']
     obtain ⟨m,hns,hl⟩:=I2.loc;have hvis:Vis X.env.scope y:=by
      rcases S.free (y,.free) hm rfl with z | z
      ·exact .inr (.inl z)
      ·exact .inr (.inr z)
     obtain ⟨u,ru,lk⟩:=hl q y v hN e4 hvis;refine zn u ru (.inr ?_);have hkk:X.env.kindOf y=some .cell\/X.env.kindOf y=some .free:=S.free (y,.free) hm rfl;have hyz:y≠z0:=fun e=>S.nofree (e ▸ hm);rcases lk with ⟨k1,_⟩ | ⟨_,c,hc1,hc2⟩
     ·rcases hkk with z | z<;>(rw [k1] at z;cases z)
     ·obtain ⟨c',hc'⟩:=dY (cells:=X.env.cells) (acc:=[]) hm;have ecc:c'=c:=by have:=hsub y c' hc';rw [hc1] at this;cases this;rfl
      subst ecc;have e3':Vis (relabel scope X.env) y:=e3;refine ⟨?_,zn c' ?_ ?_⟩
      ·rcases e3' with z | z | z
       ·exfalso;exact S.noloc y hm z
       ·exact .inl z
       ·exact .inr z
      ·show ((z0,G2.objs.size+1)::d7 X.env.cells scope.names []).lookup y=some c';rw [qO,beq_eq_false_iff_ne.mpr hyz];exact hc'
      ·exact hc2.keeps old⟩
  cell:=fun y c e=>by
   rcases split y c e with ⟨a1,b1⟩ | ⟨a1,b1⟩
   ·subst b1;exact ⟨_,hcl₁⟩
   ·obtain ⟨v,q⟩:=I2.cell y c (hsub y c b1);exact ⟨v,q.keeps old⟩
  free:=by show upd H2 s2.heap.objs.size (.lst []) G2.objs.size=none;rw [aq (Ne.symm hDC)];exact hnC
  freeC:=fun y c e=>by
   rw [aq (clD y c e)];rcases split y c e with ⟨a1,b1⟩ | ⟨a1,b1⟩
   ·subst b1;exact hnE
   ·exact I2.freeC y c (hsub y c b1)
  pin:=fun p hp=>by have hp':p∈([]:List (Addr×Obj))++[]:=hp;simp at hp'
  hok:=hokD
  len:=by show (aM _ ci σ).length=((".0":Str)::(tns++cns)).length;unfold aM;simp [S.len]}
 have st3:tn 0 h₁:=T.keep _ _ _ st2 fun b _ o e=>old b o e;have fr3:∀b∈fp,upd H2 s2.heap.objs.size (.lst []) b=none:=fun b hb=>by rw [aq (cD (fpl b hb))];exact (f2 b hb).1
 have stat:∀{H':Hp},(∀b∈fp,H' b=none)->∀b∈fp,jl (X.blkZ z0 (".0"::(tns++cns)) scope ⟨G2.objs.size,fp,s2,H2⟩) [] H' b:=fun hn b hb=>zAQ (hn b hb) (below b (fpl b hb)) (ok.exfs b hb) (.inl hb) (fun y c e=>(ok.exf b hb).2 y c e) fun p hp=>by have hp':p∈([]:List (Addr×Obj))++[]:=hp;simp at hp'
 have loop:∀s₃:Shared,s₃={s2 with heap:=h₁}->
   codeAny (model X.prog X.w) X.A (.compLoop (.ListComp elt [⟨tgt,iter,ifs,0⟩] scope pos) 0 (.ref it) (.ref s2.heap.objs.size) (compEnvC scope ((z0,G2.objs.size+1)::d7 X.env.cells scope.names []) G2.objs.size X.env))
    (RR (.ref s2.heap.objs.size) G2.objs.size) s₃:=by
  rintro s₃ rfl;refine ig (fun n s'=>∃(i:Nat)(os:List (Option V)) (ys:List V) (H':Hp),os.length=tns.length/\Inv (X.blkZ z0 (".0"::(tns++cns)) scope ⟨G2.objs.size,fp,s2,H2⟩) [] (aM os ci σ) H' s'/\tn i s'.heap/\(∀b∈fp,H' b=none)/\W i n ys H') ?_ m0 (zAN 0 _ ([]) _ Jo I3 st3 fr3 w0);rintro n s4 ⟨i,os,ys,H4,hos,I4,st4,fr4,w4⟩;rcases turn i n ys H4 w4 with ⟨stop,q⟩ | ⟨go,N,hN,step⟩
  ·refine thn (T.done (X.blkZ z0 (".0"::(tns++cns)) scope ⟨G2.objs.size,fp,s2,H2⟩) rfl rfl rfl hc i [] s4 _ H4 (fun _ _=>False) I4 (stat fr4) st4 stop) fun r s5 ⟨hr,I5⟩=>?_;subst hr;obtain ⟨m,hm,_⟩:=I5.loc;have fC:H4 G2.objs.size=none:=I5.free;have ub:Un (frs X.stack) fp H2 H4 s2.heap s5.heap:=I5.base;have IX:Inv X pins σ H4 s5:=I2.call' (s':=s5) (show s5.os=s2.os from I5.os) ub I5.hok I5.bare fun b hb=>zAG (f2 b hb).2.2.2.1 (f2 b hb).2.1 (f2 b hb).2.2.2.2.1 (f2 b hb).2.2.2.2.2
   exact fin _ _ s5 H4 m IX hm (I2.fpOk Jn fC) q
  ·refine thn (T.item (X.blkZ z0 (".0"::(tns++cns)) scope ⟨G2.objs.size,fp,s2,H2⟩) rfl rfl rfl hc i [] s4 _ H4 (fun _ _=>False) I4 (stat fr4) st4 go) fun r s5 ⟨u,hr,h5⟩=>?_;subst hr;refine thn h5 fun _ s6 hhx=>?_;obtain ⟨y,H6,I6,r6,y6,st6,fr6⟩:=hhx;have I6':=I6.pinned (stat fr6) (T.obj _ _ st6);refine thn (hg _ _ s6 _ H6 y u _ I6' r6 (step y H6 os hos y6)) fun _ s7 ⟨σ7,H7,I7,⟨os',hos',e7⟩,q7⟩=>?_;subst e7;have back:∀{H9:Hp} {s9:Shared},Inv (X.blkZ z0 (".0"::(tns++cns)) scope ⟨G2.objs.size,fp,s2,H2⟩) ([]++i0 fp s6.heap) (aM os' ci σ) H9 s9->tn (i+1) s9.heap/\∀b∈fp,H9 b=none:=fun {H9 s9} I9=>⟨T.keep _ _ _ st6 fun b hb ob e=>(I9.pin (b,ob) (eM _ (eM _ (cX hb e)))).1,fun b hb=>by obtain ⟨ob,e,d⟩:=T.obj _ _ st6 b hb;exact (I9.pin (b,ob) (eM _ (eM _ (cX hb e)))).2.1⟩
   refine thn (ht _ _ s7 _ H7 _ I7 q7) fun b s8 hhx=>?_;obtain ⟨H8,I8,q8⟩:=hhx
   cases b with
   |false=>
    rw [if_neg zq6] at q8 ⊢;obtain ⟨m',hm',w8⟩:=hN _ _ q8;exact zn m' hm' (zAN (i+1) os' ys _ hos' I8.unpinned (back I8).1 (back I8).2 w8)
   |true=>rw [if_pos rfl] at q8 ⊢;refine thn (he _ _ s8 _ H8 _ I8 q8) fun zv s8 hhx=>?_;obtain ⟨z,H8,I8,rz,ha8,hl8,n8⟩:=hhx;obtain ⟨m',hm',w8⟩:=hN _ _ n8;refine thn (ba (X:=X.blkZ z0 (".0"::(tns++cns)) scope ⟨G2.objs.size,fp,s2,H2⟩) _ s8 _ H8 (.ref s2.heap.objs.size) [z] (.ref s2.heap.objs.size) [zv] (fun _ H9=>H9=upd H8 s2.heap.objs.size (.lst (ys++[z]))) I8 rfl (.cons rz .nil) (zAL _ ys z rfl rfl ha8 hl8 rfl)) fun _ s9 hhx=>?_;obtain ⟨_,H9,I9,_,e9⟩:=hhx;subst e9;exact zn m' hm' (zAN (i+1) os' (ys++[z]) _ hos' I9.unpinned (back I9).1 (back I9).2 w8)
 exact codeAny_compStart_list (loop _ rfl) (T.self _ 0 _ _ _ st3 (loop _ rfl))
theorem yz{X:Cx}{elt iter tgt:Expr}{ifs:List Expr}{pos:Pos}{scope:Scope}{z0:Str}{wi:TI}{g:Bk->TG}{tt:Bk->TT}{te:Bk->TE}{tns cns:List Str}{ci:List Nat}(hc:X.calm=true)(S:CompScZ X z0 scope cns ci)(hi:PI X tgt iter wi)
  (hg:∀bk:Bk,PG (X.blkZ z0 (".0"::(tns++cns)) scope bk) tgt (g bk))
  (ht:∀bk:Bk,vh (X.blkZ z0 (".0"::(tns++cns)) scope bk) ifs (tt bk))
  (he:∀bk:Bk,PE (X.blkZ z0 (".0"::(tns++cns)) scope bk) elt (te bk))
  (hs:∀v,foldedSetIterable iter X.env v=pure v:=by intro _;rfl) :
  PE X (.ListComp elt [⟨tgt,iter,ifs,0⟩] scope pos) (kJ wi g tt te tns.length ci):=by
 intro pins s σ H Q I h;have hfc:∀y∈scope.names,y.2=.free->∃c,X.env.cells.lookup y.1=some c:=fun y hy hk=>I.ok.has _ (S.free y hy hk);rw [eval_ListComp];refine wpAny_comprehension_free (use:=none) rfl hs (eI hfc) S.kind S.names (thn (hi pins s σ H _ I h) fun v s1 h1=>thn h1 fun itv s2 h2=>?_);obtain ⟨it,fp,tn,J,H2,rfl,I2,T,st2,f2,hcw⟩:=h2;refine qU (RR:=fun acc C=>compPost (model X.prog X.w) X.A X.xe none (EP X pins σ Q) acc C) hc S hg ht he I2 T st2 f2 hcw fun D C s5 H4 m I5 hm fo q=>?_;refine zn m hm fun h' hs'=>zAA (.ref D) H4 ?_ rfl q;exact I5.turned (t':=s5.toks) (it:=C) (fun b o hb e=>(hs'.2 b hb).trans e) fo.1 fo.2.1 fo.2.2.2.1 fo.2.2.2.2.1 fo.2.2.2.2.2
def Fc(osc:Scope)(N:List Str)(z0:Str)(scope:Scope)(cns:List Str)(ci:List Nat):Bool:=
 scope.kind==.function&&scope.names.all (fun y=>y.2 != .local || scope.names.lookup y.1==some .local) &&
 scope.names.all (fun y=>y.2 != .free || (osc.names.lookup y.1==some .cell || osc.names.lookup y.1==some .free))&&jP N scope.names cns ci &&
 scope.names.all (fun y=>y.2 != .free || (wA scope osc).lookup y.1 != some .local)&&scope.names.all (fun y=>y.2 != .free || y.1 != z0)&&scope.names.all (fun y=>y.2 != .cell || y.1==z0)
theorem gC{osc:Scope}:∀{names:List (Str×NameKind)} {y:Str} {k:NameKind},(names.map fun (n,k)=>if (k==NameKind.free&&osc.kind==.function&&osc.names.lookup n==some .cell) then (n,NameKind.cell) else (n,k)).lookup y=some k->k=.cell\/k=.free->
  (y,NameKind.cell)∈names\/(y,NameKind.free)∈names
 | [],_,_,h,_=>by simp at h
 | (n,k0)::r,y,k,h,hk=>by
  rw [dh,qO] at h
  by_cases hf:(k0==NameKind.free&&osc.kind==.function&&osc.names.lookup n==some .cell)=true
  ·simp only [hf,if_true] at h;have k0f:k0=.free:=by have:=hf;simp only [Bool.and_eq_true] at this;simpa using this.1.1
   split at h
   ·next hq=>
    have:y=n:=by simpa using hq
    subst this;subst k0f;exact .inr eL
   ·exact (gC h hk).imp (zq9 _) (zq9 _)
  ·simp only [hf] at h
   split at h
   ·next hq=>
    have:y=n:=by simpa using hq
    subst this;have e:k0=k:=by simpa using h
    subst e;rcases hk with z | z
    ·subst z;exact .inl eL
    ·subst z;exact .inr eL
   ·exact (gC h hk).imp (zq9 _) (zq9 _)
theorem CompScZ.of{X:Cx}{z0:Str}{scope:Scope}{cns:List Str}{ci:List Nat}(h:Fc X.env.scope X.N z0 scope cns ci=true)
  (hc:∀n acc,cellsFrom n scope.names acc=(z0,n)::acc) (hp:∀h,pushCells h scope.names=h.push {cls:=.type "cell",data:=.cell none}):CompScZ X z0 scope cns ci:=by
 unfold Fc at h;rw [dF,dF,dF,dF,dF,dF] at h;obtain ⟨⟨⟨⟨⟨⟨h1,h3⟩,h4⟩,h5⟩,h6⟩,h7⟩,h8⟩:=h;obtain ⟨l,r⟩:=iQ h5;refine ⟨by simpa using h1,fun y hy hk=>?_,fun y hy hk=>?_,r,l,fun y hy z=>?_,fun hm=>?_,fun y hy=>?_,hc,hp⟩
 ·have:=zq37.mp h3 y hy;rw [kO] at this;rcases this with q | q
  ·exact absurd hk (by simpa using q)
  ·simpa using q
 ·have:=zq37.mp h4 y hy;rw [kO,kO] at this;rcases this with q | q | q
  ·exact absurd hk (by simpa using q)
  ·exact .inl (show X.env.scope.names.lookup y.1=_ by simpa using q)
  ·exact .inr (show X.env.scope.names.lookup y.1=_ by simpa using q)
 ·have:=zq37.mp h6 _ hy;rw [kO] at this;rcases this with q | q
  ·simp at q
  ·have z':(wA scope X.env.scope).lookup y=some .local:=z;have q':((wA scope X.env.scope).lookup y != some .local)=true:=q;rw [z'] at q';exact absurd q' Jm
 ·have:=zq37.mp h7 _ hm;simp at this
 ·have key:(y,NameKind.cell)∈scope.names\/(y,NameKind.free)∈scope.names:=by
   rcases hy with z | z
   ·exact gC (osc:=X.env.scope) z (.inl rfl)
   ·exact gC (osc:=X.env.scope) z (.inr rfl)
  rcases key with z | z
  ·have:=zq37.mp h8 _ z
   left;simpa using this
  ·exact .inr z
theorem wV{X:Cx}{elt iter tgt:Expr}{ifs:List Expr}{pos:Pos}{scope:Scope}{z0:Str}{wi:TI}{g:Bk->TG}{tt:Bk->TT}{te:Bk->TE}{tns cns:List Str}{ci:List Nat}(hc:X.calm=true)(S:CompScZ X z0 scope cns ci)(hi:XI X tgt iter wi)
  (hg:∀bk:Bk,XG (X.blkZ z0 (".0"::(tns++cns)) scope bk) tgt (g bk))
  (ht:∀bk:Bk,xb (X.blkZ z0 (".0"::(tns++cns)) scope bk) ifs (tt bk))
  (he:∀bk:Bk,XE (X.blkZ z0 (".0"::(tns++cns)) scope bk) elt (te bk))
  (hs:∀v,foldedSetIterable iter X.env v=pure v:=by intro _;rfl) :
  XE X (.ListComp elt [⟨tgt,iter,ifs,0⟩] scope pos) (kJ wi g tt te tns.length ci):=⟨yz hc S hi.h (fun bk=>(hg bk).h) (fun bk=>(ht bk).h) (fun bk=>(he bk).h) hs⟩
end L2
namespace L2
variable {a0 a1 a2 a3 a4 a5 a6 a7:Option V} {i:Int} {r:St} {x:V}
def Ca:Nat->St->Option V
 |0,o::_=>o
 |n+1,_::r=>Ca n r
 |_,[]=>none
theorem qo:∀{n:Nat} {σ:St} {v:V},Ca n σ=some v->σ[n]?=some (some v)
 |0,o::_,v,h=>by rw [show Ca 0 (o::_)=o from rfl] at h;rw [h];rfl
 |n+1,_::r,v,h=>by rw [Al];exact qo h
 |0,[],_,h=>by cases h
 |_+1,[],_,h=>by cases h
def gh(i:Nat):TE:=fun σ H Q=>match Ca i σ with
 |some v=>Q v H
 |none=>False
theorem Cq{i:Nat}{σ:St}{H:Hp}{Q:VK}(h:gh i σ H Q):EZ i σ H Q:=by
 unfold gh at h
 split at h
 ·next v e=>exact zn v (qo e) h
 ·exact h.elim
theorem yqv{X:Cx}(i:Nat){x:Str}{pos:Pos}(hv:Vis X.env.scope x)(hN:X.N[i]?=some x:=by rfl)(hd:(x==("__debug__":Str))=false:=by kernel_rfl) (hcd:(x==("__classdict__":Str))=false:=by kernel_rfl):XE X (.Name x pos) (gh i):=
 ⟨fun pins s σ H Q I h=>qv i hv hN hd hcd pins s σ H Q I (Cq h)⟩
def yI0(g:Int->Int->V):R2:=fun x y H Q=>match x,y with
 | .int i,.int j=>Q (g i j) H
 |_,_=>False
def yI(C:Int->Int->Prop)(g:Int->Int->V):R2:=fun x y H Q=>match x,y with
 | .int i,.int j=>C i j/\Q (g i j) H
 |_,_=>False
def yU(g:Int->V):V->Hp->VK->Prop:=fun x H Q=>match x with
 | .int i=>Q (g i) H
 |_=>False
theorem fJ{g:Int->Int->V}{y:V}{H:Hp}{Q:VK}(h:yI0 g x y H Q):rI0 g x y H Q:=by
 unfold yI0 at h
 split at h
 ·exact zAA _ _ rfl rfl h
 ·exact h.elim
theorem qJ{C:Int->Int->Prop}{g:Int->Int->V}{y:V}{H:Hp}{Q:VK}(h:yI C g x y H Q):rI C g x y H Q:=by
 unfold yI at h
 split at h
 ·exact zAA _ _ rfl rfl h
 ·exact h.elim
theorem Iq{g:Int->V}{H:Hp}{Q:VK}(h:yU g x H Q):rU g x H Q:=by
 unfold yU at h
 split at h
 ·exact zn _ rfl h
 ·exact h.elim
section
variable {X:Cx}
theorem OpR.le{f:Value->Value->Sem Value}{r r':R2}(h:OpR X f r)(le:∀{x y:V} {H:Hp} {Q:VK},r' x y H Q->r x y H Q):OpR X f r':=fun pins s σ H x y v u Q I rx ry q=>h pins s σ H x y v u Q I rx ry (le q)
theorem bw:OpR X (binaryOp .Add) (yI0 fun i j=>.int (i+j)):=OpR.le DM fJ
theorem cP:OpR X (binaryOp .Sub) (yI0 fun i j=>.int (i-j)):=OpR.le DS fJ
theorem cO:OpR X (binaryOp .Mult) (yI CMul fun i j=>.int (i * j)):=OpR.le DP qJ
theorem aU:OpR X (binaryOp .Mod) (yI (fun _ j=>0<j) fun i j=>.int (i % j)):=OpR.le DO qJ
theorem uV:OpR X (binaryOp .Pow) (yI vf fun i j=>.int (i ^ j.toNat)):=OpR.le DQ qJ
theorem fK:OpR X (binaryOp .LShift) (yI vf fun i j=>.int (i * 2 ^ j.toNat)):=OpR.le DR qJ
theorem uU:OpR X (binaryOp .BitAnd) (yI0 fun i j=>.int (Builtin.bitAnd i j)):=OpR.le DN fJ
theorem Aa:OpR X (binaryOp .BitOr) (yI0 fun i j=>.int (Builtin.bitOr i j)):=OpR.le Fv fJ
theorem uW:OpR X (binaryOp .BitXor) (yI0 fun i j=>.int (Builtin.bitXor i j)):=OpR.le DT fJ
theorem dg:OpR X (compareOp .Lt) (yI0 fun i j=>.bl (decide (i<j))):=OpR.le Fu fJ
theorem A9:OpR X (compareOp .LtE) (yI0 fun i j=>.bl (decide (i<=j))):=OpR.le Ft fJ
theorem sv:OpR X (compareOp .Gt) (yI0 fun i j=>.bl (decide (j<i))):=OpR.le Fs fJ
theorem nH:OpR X (compareOp .GtE) (yI0 fun i j=>.bl (decide (j<=i))):=OpR.le Fq fJ
theorem bh:OpR X (binaryOp .FloorDiv) (yI CDivB fun i j=>.int (i / j)):=OpR.le yt qJ
theorem gI:UnR X (unaryOp .USub) (yU fun i=>.int (-i)):=fun pins s σ H x v Q I rx q=>F1 pins s σ H x v Q I rx (Iq q)
end
section
variable {H:Hp} {Q:VK}
theorem J9{v:V}:gh 0 (some v::r) H Q=Q v H:=rfl
theorem Ja{v:V}:gh 1 (a0::some v::r) H Q=Q v H:=rfl
theorem Jb{v:V}:gh 2 (a0::a1::some v::r) H Q=Q v H:=rfl
theorem Jc{v:V}:gh 3 (a0::a1::a2::some v::r) H Q=Q v H:=rfl
theorem Jd{v:V}:gh 4 (a0::a1::a2::a3::some v::r) H Q=Q v H:=rfl
theorem Je{v:V}:gh 5 (a0::a1::a2::a3::a4::some v::r) H Q=Q v H:=rfl
theorem Jf{v:V}:gh 6 (a0::a1::a2::a3::a4::a5::some v::r) H Q=Q v H:=rfl
theorem Jg{v:V}:gh 7 (a0::a1::a2::a3::a4::a5::a6::some v::r) H Q=Q v H:=rfl
theorem Jh{v:V}:gh 8 (a0::a1::a2::a3::a4::a5::a6::a7::some v::r) H Q=Q v H:=rfl
theorem Ji{v:V}{a8:Option V}:gh 9 (a0::a1::a2::a3::a4::a5::a6::a7::a8::some v::r) H Q=Q v H:=rfl
theorem Ir{v:V}{a8:Option V}{a9:Option V}:gh 10 (a0::a1::a2::a3::a4::a5::a6::a7::a8::a9::some v::r) H Q=Q v H:=rfl
theorem J8{g:Int->Int->V}{j:Int}:yI0 g (.int i) (.int j) H Q=Q (g i j) H:=rfl
theorem y_I{C:Int->Int->Prop}{g:Int->Int->V}{j:Int}:yI C g (.int i) (.int j) H Q=(C i j/\Q (g i j) H):=rfl
theorem y_U{g:Int->V}:yU g (.int i) H Q=Q (g i) H:=rfl
end
end L2
end
set_option maxHeartbeats 4000000
namespace FA
open PySem L2 PyProof.Rows
theorem CDivB.pow{i:Int}{n:Nat}(h:n<9000):CDivB i (1 * 2 ^ n):=by rw [AJ];refine ⟨sD Jm,?_⟩;rw [Int.natAbs_pow];show (2 ^ n).log2<9000;rw [Nat.log2_two_pow];exact h
def ltr(z:Int):Nat:=97+(z % 26).toNat
def Iz(m pl k:Int)(j:Nat):Int:=m / 36+j * j+(if decide ((j:Int)=pl)=true then 1 else 0) * k
def nm(m pl k:Int):Nat->Str
 |0=>""
 |j+1=>nm m pl k j++⟨#[ltr (Iz m pl k j)]⟩
def nms(m:Int)(n:Nat):List Str:=(List.range n).map fun (k:Nat)=>nm m (m / 6 % (1+m % 6)) k (1+m % 6).toNat
theorem Fn:∀n:Nat,n<26->atI ("abcdefghijklmnopqrstuvwxyz":Str).cps.toList (n:Int)=some (97+n):=by decide +kernel
theorem DB(z:Int):atI ("abcdefghijklmnopqrstuvwxyz":Str).cps.toList (z % 26)=some (ltr z):=by have h0:0<=z % 26:=gi _ Jm;have h1:z % 26<26:=js _ Jm;unfold ltr;obtain ⟨n,hn⟩:=qP h0;rw [hn];exact Fn n Jn
end FA
namespace L2
open PySem PyProof.Rows
variable {H H':Hp}
theorem vB{A:Around}{k n:Nat}(h:n<=64)(hr:Room k A):A.units+n<cLine:=Cw (Nat.add_le_add_left h _) hr.units
theorem qD{α β:Type}{f:Nat->α->β}{xs:List α}{i:Nat}{x:α}(h:xs[i]?=some x):(xs.take (i+1)).mapIdx f=(xs.take i).mapIdx f++[f i x]:=by obtain ⟨hl,e⟩:=zq10.mp h;rw [eN hl,e,List.mapIdx_append,dE,sE (nK hl)];simp
theorem ii{xs:List V}{k:Int}(h:0<=k):eJ xs none (some k)=xs.take k.toNat:=by
 obtain ⟨n,rfl⟩:=qP h;unfold eJ;rw [HT.kB,HT.jB,uZ,eh,x3]
 by_cases hn:n<=xs.length
 ·rw [sE hn]
 ·rw [AK Jn,eO,kP Jn]
theorem iR{xs:List V}{k:Int}(h:0<=k):eJ xs (some k) none=xs.drop k.toNat:=by
 obtain ⟨n,rfl⟩:=qP h;unfold eJ;rw [HT.kB,HT.jB,eh]
 by_cases hn:n<=xs.length
 ·rw [sE hn,kP Jo]
 ·rw [AK Jn,v0 (zq0 _),v0 Jn];simp
theorem oz{xs:List V}{k l:Int}(h:0<=k)(h2:0<=l):eJ xs (some k) (some l)=(xs.take l.toNat).drop k.toNat:=by
 obtain ⟨n,rfl⟩:=qP h;obtain ⟨m,rfl⟩:=qP h2;unfold eJ;rw [HT.jB,HT.jB,eh,eh]
 by_cases hn:n<=xs.length
 ·rw [sE hn]
  by_cases hm:m<=xs.length
  ·rw [sE hm,List.drop_take]
  ·rw [AK Jn,kP Jo,kP Jn]
 ·rw [AK (show xs.length<=n by omega),v0 (zq0 _),v0 (by rw [dE];omega)];simp
section
variable {K:W.Frag} {te:TE} {ci:List Nat} {σ:St} {acc:Addr} {Q:Hp->Prop} {H1:Hp} {a:Addr} {xs:List V}
theorem dZ{α:Type}(xs:List α):xs.filter (fun _=>true)=xs:=by simp
theorem AY(f:V->V)(hz:xs.length<=sizeLine)(hl:SqL K H1 a xs)(hacc:H1 acc=none)(hf:∀x∈xs,∀H Q',Same H1 H->Q' (f x) H->te (aM [some x] ci σ) H Q')
  (q:Q (upd H1 acc (.lst (xs.map f)))):ck (Itl K a) (c6 1) j1 te 1 ci σ acc Q (upd H1 acc (.lst [])):=
 xq (fun _=>true) f hz hl hacc (fun _ _ _ _ _ h=>h) (fun x hm H Q' s _ h=>hf x hm H Q' s h) (by rw [dZ];exact q)
theorem AZ(f:V->V)(hz:xs.length<=sizeLine)(hl:SqT K H1 a xs)(hacc:H1 acc=none)(hf:∀x∈xs,∀H Q',Same H1 H->Q' (f x) H->te (aM [some x] ci σ) H Q')
  (q:Q (upd H1 acc (.lst (xs.map f)))):ck (Itt K a) (c6 1) j1 te 1 ci σ acc Q (upd H1 acc (.lst [])):=
 ic (fun _=>true) f hz hl hacc (fun _ _ _ _ _ h=>h) (fun x hm H Q' s _ h=>hf x hm H Q' s h) (by rw [dZ];exact q)
theorem tj{n:Nat}(f:Nat->V)(hz:n<=sizeLine)(hacc:H1 acc=none)(hf:∀i:Nat,i<n->∀H Q',Same H1 H->Q' (f i) H->te (aM [some (.int (i:Int))] ci σ) H Q')
 (q:Q (upd H1 acc (.lst ((List.range n).map f)))):ck (Itr 0 n) (c6 1) j1 te 1 ci σ acc Q (upd H1 acc (.lst [])):=by
 refine xr (fun _=>true) (fun i=>f i.toNat) hz hacc (fun _ _ _ _ _ h=>h) (fun i hi H Q' s _ h=>?_) ?_
 ·rw [Ak] at h ⊢;rw [eh] at h;exact hf i hi H Q' s h
 ·rw [dZ];have e:(fun i:Nat=>f (0+(i:Int)).toNat)=f:=by funext i;rw [Ak,eh]
  rw [e];exact q
end
structure TSame(H H':Hp):Prop where
 tup:∀b xs,H b=some (.tup xs)->H' b=some (.tup xs)
 frz:∀b o u,H b=some (.frz o u)->H' b=some (.frz o u)
theorem Same.ts(s:Same H H'):TSame H H':=⟨fun b xs e=>s b _ e,fun b o u e=>s b _ e⟩
theorem TSame.trans{H1 H2:Hp}(a:TSame H H1)(b:TSame H1 H2):TSame H H2:=⟨fun c xs e=>b.tup c xs (a.tup c xs e),fun c o u e=>b.frz c o u (a.frz c o u e)⟩
theorem TSame.updL{p:Addr}{ys:List V}{o:HO}(h:H p=some (.lst ys)):TSame H (upd H p o):=
 ⟨fun b xs e=>by rw [aq (bN e h (by intro z;cases z))];exact e,fun b o u e=>by rw [aq (bN e h (by intro z;cases z))];exact e⟩
theorem TSame.seqT{K:W.Frag}{a:Addr}{xs:List V}(e:TSame H H')(h:SqT K H a xs):SqT K H' a xs:=by
 rcases h with (h | ⟨o,h⟩) | h
 ·exact .inl (.inl (e.tup _ _ h))
 ·exact .inl (.inr ⟨o,e.frz _ _ _ h⟩)
 ·exact .inr h
def DeedV(K:W.Frag)(H:Hp)(x:V)(d:FB.Deed):Prop:=d.fine/\∃q,x=.ref q/\SqT K H q d.vs
theorem DeedV.ts{K:W.Frag}{x:V}{d:FB.Deed}(s:TSame H H')(h:DeedV K H x d):DeedV K H' x d:=⟨h.1,let ⟨q,e,z⟩:=h.2;(zn q e (s.seqT z))⟩
abbrev DeedsV (K:W.Frag) (H:Hp):List V->List FB.Deed->Prop:=Paired (DeedV K H)
theorem DeedsV.ts{K:W.Frag}{xs:List V}{ds:List FB.Deed}(s:TSame H H')(h:DeedsV K H xs ds):DeedsV K H' xs ds:=h.mono fun _ _ z=>z.ts s
end L2
namespace FA
open PySem L2
end FA
namespace FL
open PySem L2 PyProof.Rows
def zk(n:Nat):List Int:=(List.range n).map fun i:Nat=>(i:Int)
def sI(b:List Int):Prop:=b≠[]/\b.Pairwise (·<=·)
instance (b:List Int):Decidable (sI b):=by unfold sI;infer_instance
structure AO(n:Nat)(bss:List (List Int)):Prop where
 good:∀b∈bss,sI b
 perm:bss.flatten.Perm (zk n)
instance (n:Nat) (bss:List (List Int)):Decidable (AO n bss):=decidable_of_iff ((∀b∈bss,sI b)/\bss.flatten.Perm (zk n)) ⟨fun ⟨a,b⟩=>⟨a,b⟩,fun h=>⟨h.good,h.perm⟩⟩
theorem tF{i j:Int}:eqV (.int i) (.int j)=decide (i=j):=by first | rfl | (unfold eqV;simp)
theorem mN{n k:Nat}(h:k<n):ixN n (k:Int)=some k:=by unfold ixN;rw [if_pos Jn,if_pos Jn,eh]
end FL
namespace FL
open PySem L2 PyProof.Rows
theorem Paired.mem{α β:Type}{F:α->β->Prop}:∀{l₁:List α} {l₂:List β},Paired F l₁ l₂->∀a∈l₁,∃b∈l₂,F a b
 |_,_,.nil=>by intro a h;cases h
 |_,_,.cons h t=>by
  intro a hm;rcases zq5.mp hm with e | e
  ·subst e;exact zn _ (eL ..) h
  ·obtain ⟨b,hb,hf⟩:=Paired.mem t a e;exact zn b (zq9 _ hb) hf
theorem Paired.imp{α β:Type}{F G:α->β->Prop}:∀{l₁:List α} {l₂:List β},Paired F l₁ l₂->(∀a∈l₁,∀b∈l₂,F a b->G a b)->Paired G l₁ l₂
 |_,_,.nil,_=>.nil
 |_,_,.cons h t,hi=>.cons (hi _ (eL ..) _ (eL ..) h) (Paired.imp t fun a ha b hb=>hi a (zq9 _ ha) b (zq9 _ hb))
theorem Paired.snoc{α β:Type}{F:α->β->Prop}{a:α}{b:β}(hf:F a b):∀{l₁:List α} {l₂:List β},Paired F l₁ l₂->Paired F (l₁++[a]) (l₂++[b])
 |_,_,.nil=>.cons hf .nil
 |_,_,.cons h t=>.cons h (Paired.snoc hf t)
theorem Paired.put{α β:Type}{F:α->β->Prop}{a:α}{b:β}(hf:F a b):∀{l₁:List α} {l₂:List β} (i:Nat),Paired F l₁ l₂->Paired F (l₁.set i a) (l₂.set i b)
 |_,_,_,.nil=>.nil
 |_,_,0,.cons h t=>.cons hf t
 |_,_,i+1,.cons h t=>.cons h (Paired.put hf i t)
theorem Paired.of_get{α β:Type}{F:α->β->Prop}:∀{l₁:List α} {l₂:List β},l₁.length=l₂.length->(∀(i:Nat)a b,l₁[i]?=some a->l₂[i]?=some b->F a b)->Paired F l₁ l₂
 | [],[],_,_=>.nil
 | [],_::_,h,_=>by simp at h
 |_::_,[],h,_=>by simp at h
 |a::l₁,b::l₂,h,f=>.cons (f 0 a b rfl rfl) (Paired.of_get (by simpa using h) fun i x y hx hy=>f (i+1) x y hx hy)
section
variable {K:W.Frag} {te:TE} {ci:List Nat} {σ:L2.St} {acc:Addr} {Q:Hp->Prop} {H1:Hp}
end
section
variable {K:W.Frag} {H:Hp}
end
end FL
namespace L2
open PySem PySem.Spec PyProof.Rows
section
variable {K:W.Frag} {tt:TT} {te:TE} {ci:List Nat} {σ:St} {acc:Addr} {Q:Hp->Prop} {H1:Hp} {a:Addr} {xs:List V}
theorem ox(p:V->Bool)(f:V->V)(hz:xs.length<=sizeLine)(hl:SqL K H1 a xs)(hacc:H1 acc=none)
  (hp:∀x∈xs,∀H Q',Same H1 H->(∀H',Same H H'->Q' (p x) H')->tt (aM [some x] ci σ) H Q') (hf:∀x∈xs,∀H Q',Same H1 H->p x=true->(∀H',Same H H'->Q' (f x) H')->te (aM [some x] ci σ) H Q')
  (q:∀H,Same H1 H->H acc=some (.lst ((xs.filter p).map f))->Q H):ck (Itl K a) (c6 1) tt te 1 ci σ acc Q (upd H1 acc (.lst [])):=by
 refine eC (fun i ys H=>ys=((xs.take i).filter p).map f/\Same H1 H/\H acc=some (.lst ys)) (zAB Jo (Same.upd hacc) aj) (fun i ys H _ h=>h.2.1.seq hl) ?_ ?_
 ·rintro i x ys H os hi ho ⟨rfl,sm,ha⟩;have hm:=zq4 hi;have e:(aM os ci σ).set 1 (some x)=aM [some x] ci σ:=by
   match os,ho with
   | [o],_=>rfl
  show (∃os',os'.length=1/\(aM os ci σ).set 1 (some x)=aM os' ci σ)/\tt ((aM os ci σ).set 1 (some x)) H _;rw [e];refine ⟨zn ([some x]) rfl rfl,hp x hm _ _ sm fun H2 s2=>?_⟩
  cases hb:p x with
  |true=>
   rw [if_pos rfl];refine hf x hm _ _ (sm.trans s2) hb fun H3 s3=>zAJ (s3 _ _ (s2 _ _ ha)) (oM hi hz) ?_ (((sm.trans s2).trans s3).updM hacc) aj
   rw [cV hi,if_pos hb]
  |false=>rw [if_neg zq6];refine zAB ?_ (sm.trans s2) (s2 _ _ ha);rw [cV hi,if_neg (by rw [hb];exact zq6),iL]
 ·rintro ys H ⟨rfl,sm,ha⟩;rw [eO] at ha;exact q H sm ha
theorem eG(p:Nat->Bool)(f:Nat->V)(i:Nat):((List.range (i+1)).filter p).map f=((List.range i).filter p).map f++(if p i=true then [f i] else []):=by
 rw [Ap,Cy,cS];congr 1
 cases hb:p i<;>simp [hb]
theorem jR{n:Nat}(p:Nat->Bool)(f:Nat->V)(hz:n<=sizeLine)(hacc:H1 acc=none)
  (hp:∀i:Nat,i<n->∀H Q',Same H1 H->(∀H',Same H H'->Q' (p i) H')->tt (aM [some (.int (i:Int))] ci σ) H Q') (hf:∀i:Nat,i<n->∀H Q',Same H1 H->p i=true->(∀H',Same H H'->Q' (f i) H')->te (aM [some (.int (i:Int))] ci σ) H Q')
  (q:∀H,Same H1 H->H acc=some (.lst (((List.range n).filter p).map f))->Q H):ck (Itr 0 n) (c6 1) tt te 1 ci σ acc Q (upd H1 acc (.lst [])):=by
 refine jQ (fun i ys H=>ys=((List.range i).filter p).map f/\Same H1 H/\H acc=some (.lst ys)) (zAB Jo (Same.upd hacc) aj) ?_ ?_
 ·rintro i ys H os hi ho ⟨rfl,sm,ha⟩;rw [show (0:Int)+(i:Int)=(i:Int) by omega];have e:(aM os ci σ).set 1 (some (.int (i:Int)))=aM [some (.int (i:Int))] ci σ:=by
   match os,ho with
   | [o],_=>rfl
  show (∃os',os'.length=1/\(aM os ci σ).set 1 (some (.int (i:Int)))=aM os' ci σ)/\tt ((aM os ci σ).set 1 (some (.int (i:Int)))) H _;rw [e];refine ⟨zn ([some (.int (i:Int))]) rfl rfl,hp i hi _ _ sm fun H2 s2=>?_⟩;have hl:(((List.range i).filter p).map f).length<sizeLine:=by rw [zq1];have:=Am p (List.range i);rw [gL] at this;omega
  cases hb:p i with
  |true=>
   rw [if_pos rfl];refine hf i hi _ _ (sm.trans s2) hb fun H3 s3=>zAJ (s3 _ _ (s2 _ _ ha)) hl ?_ (((sm.trans s2).trans s3).updM hacc) aj
   rw [eG,if_pos hb]
  |false=>rw [if_neg zq6];refine zAB ?_ (sm.trans s2) (s2 _ _ ha);rw [eG,if_neg (by rw [hb];exact zq6),iL]
 ·rintro ys H ⟨rfl,sm,ha⟩;exact q H sm ha
end
end L2
namespace FD
open PySem L2 PyProof.Rows
def iu(c k:Int):Int:=
 if 10 ^ Int.toNat 40<=c then (c-10 ^ Int.toNat 40) / (1 * 2 ^ (31 * (k % 60)).toNat) % (1 * 2 ^ Int.toNat 31)
 else (c * 1103515245+7919 * k * k+k) % 2147483647 * ((c * 1103515245+7919 * k * k+k) % 2147483647) % 2147483629 * 69621 % 2147483587
theorem p9(c k:Int):0<=iu c k:=by
 unfold iu
 split
 ·exact gi _ Jm
 ·exact gi _ Jm
def atF(ns:List Int)(k:Int):Int:=if k<ns.length then ns.getD k.toNat 0 else 0
theorem nP{ns:List Int}{k:Int}(h:∀z∈ns,Builtin.Int.intBits z<=2 ^ 20):Builtin.Int.intBits (atF ns k)<=2 ^ 20:=by
 unfold atF;have z0:Builtin.Int.intBits 0<=2 ^ 20:=by decide
 split
 ·rw [fN]
  cases e:ns[k.toNat]? with
  |none=>exact z0
  |some z=>exact h z (zq4 e)
 ·exact z0
def cQ(n:Int):List Int:=(List.range (1+n % 6).toNat).map fun k:Nat=>n / ((k:Int)+1) % 26
def fW(z:Int):Str:=⟨#[FA.ltr z]⟩
def tO(n:Int)(j:Nat):Str:=Txt.join "" ((List.range (cQ n).length).map fun k:Nat=>fW ((cQ n).getD k 0+3 * (j:Int) * (if decide ((k:Int)=n / 64 % ((cQ n).length:Int))=true then 1 else 0)))
def kw8:List Str:=["tell","if","end","plus","in","box","while","else"]
def hX(n:Int)(m:Nat):List Str:=if n / 512 % 4=0 then kw8.take m else (List.range m).map fun j=>tO n j
theorem kX{n:Int}{m:Nat}(h:m<=8):(hX n m).length=m:=by
 unfold hX
 split
 ·rw [dE];show min m 8=m;omega
 ·simp
theorem nv(n:Int):(cQ n).length=(1+n % 6).toNat:=by unfold cQ;simp
end FD
namespace L2
open PySem PyProof.Rows
end L2
namespace FG
open PySem L2 PyProof.Rows
variable {kvs:List (Key×V)}
structure IntD(kvs:List (Key×V)):Prop where
 nd:(kvs.map (·.1)).Nodup
 nums:∀kv∈kvs,∃i,kv.2=.int i
theorem IntD.nil:IntD []:=⟨Cv,fun kv h=>by cases h⟩
theorem IntD.put(h:IntD kvs)(k:Key)(i:Int):IntD (cv kvs k (.int i)):=by
 by_cases hk:(kvs.any fun kv=>decide (kv.1=k))=true
 ·have e:cv kvs k (.int i)=kvs.map (fun kv=>if kv.1=k then (kv.1,.int i) else kv):=by unfold cv;rw [if_pos hk]
  rw [e];refine ⟨?_,fun kv hm=>?_⟩
  ·have e2:(kvs.map (fun kv=>if kv.1=k then (kv.1,V.int i) else kv)).map (·.1)=kvs.map (·.1):=by
    rw [fM];refine v7 fun kv _=>?_;show (if kv.1=k then (kv.1,V.int i) else kv).1=kv.1
    split<;>rfl
   rw [e2];exact h.nd
  ·obtain ⟨kv',hm',rfl⟩:=zq21.mp hm;show ∃j,(if kv'.1=k then (kv'.1,V.int i) else kv').2=.int j
   split
   ·exact ⟨i,rfl⟩
   ·exact h.nums kv' hm'
 ·have hn:bI kvs k=none:=by have:=cI k kvs;rw [Bool.not_eq_true] at hk;rw [hk] at this;exact zq140.mp (by rw [zq140];cases e:bI kvs k with | none=>rfl | some v=>rw [e] at this;cases this)
  refine ⟨Be _ h.nd hn,fun kv hm=>?_⟩;rw [pI _ hn] at hm;rcases zq15.mp hm with z | z
  ·exact h.nums kv z
  ·rw [zq2.mp z];exact ⟨i,rfl⟩
theorem IntD.flat(h:IntD kvs):kvs.all (fun kv=>bH kv.2)=true:=by rw [zq37];intro kv hm;obtain ⟨i,e⟩:=h.nums kv hm;rw [e];rfl
theorem IntD.self(h:IntD kvs):B4 kvs kvs=true:=vv h.nd h.flat
def j6(kvs:List (Key×V))(n:Str):Option Int:=match bI kvs (.inr n) with
 |some (.int i)=>some i
 |_=>none
theorem gf{k n:Str}{i:Int}:j6 (cv kvs (.inr k) (.int i)) n=if n=k then some i else j6 kvs n:=by
 unfold j6;rw [zZ]
 by_cases h:n=k
 ·subst h;rw [if_pos rfl,if_pos rfl]
 ·rw [if_neg (fun z=>h (Sum.inr.inj z)),if_neg h]
end FG
namespace FS
open PySem L2 FB PyProof.Rows
inductive Stm where
 |deed (d:Deed)
 |ifs (n:Str) (ones others:List Stm)
 |whl (n:Str) (rows:List Stm)
variable {H H':Hp} {f:List Addr}
mutual
inductive StmV (K:W.Frag) (H:Hp):V->Stm->List Addr->Prop where
 |deed {q:Addr} {d:Deed}:d.fine->SqT K H q d.vs->StmV K H (.ref q) (.deed d) []
 |ifs {q a b:Addr} {n:Str} {xs ys:List V} {ones others:List Stm} {f g:List Addr}:SqT K H q [.str "if",.str n,.ref a,.ref b]->H a=some (.lst xs)->H b=some (.lst ys)->StmsV K H xs ones f->StmsV K H ys others g->
   StmV K H (.ref q) (.ifs n ones others) (a::b::(f++g))
 |whl {q a:Addr} {n:Str} {xs:List V} {rows:List Stm} {f:List Addr}:SqT K H q [.str "while",.str n,.ref a]->H a=some (.lst xs)->StmsV K H xs rows f->StmV K H (.ref q) (.whl n rows) (a::f)
inductive StmsV (K:W.Frag) (H:Hp):List V->List Stm->List Addr->Prop where
 |nil:StmsV K H [] [] []
 |cons {x:V} {s:Stm} {xs:List V} {ss:List Stm} {f g:List Addr}:StmV K H x s f->StmsV K H xs ss g->StmsV K H (x::xs) (s::ss) (f++g)
end
def Kept(fp:List Addr)(H H':Hp):Prop:=∀a∈fp,∀o,H a=some o->H' a=some o
theorem Kept.left{g:List Addr}(h:Kept (f++g) H H'):Kept f H H':=fun a ha=>h a (l8 _ ha)
theorem Kept.right{g:List Addr}(h:Kept (f++g) H H'):Kept g H H':=fun a ha=>h a (eM _ ha)
theorem Kept.tail{x:Addr}{g:List Addr}(h:Kept (x::g) H H'):Kept g H H':=fun a ha=>h a (zq9 _ ha)
theorem Kept.of{fp:List Addr}(s:Same H H'):Kept fp H H':=fun a _ o e=>s a o e
theorem Kept.upd{fp:List Addr}{p:Addr}{o:HO}(h:p∉fp):Kept fp H (upd H p o):=fun a ha u e=>by rw [aq (fun z=>h (by rw [<- z];exact ha))];exact e
variable {K:W.Frag}
mutual
theorem StmV.keep(t:TSame H H'):∀{x:V} {s:Stm} {f:List Addr},StmV K H x s f->Kept f H H'->StmV K H' x s f
 |_,_,_,.deed hf h,_=>.deed hf (t.seqT h)
 |_,_,_,.ifs (a:=a) (b:=b) h ha hb h1 h2,k=>.ifs (t.seqT h) (k a Jo _ ha) (k b Jo _ hb) (StmsV.keep t h1 k.tail.tail.left) (StmsV.keep t h2 k.tail.tail.right)
 |_,_,_,.whl (a:=a) h ha h1,k=>.whl (t.seqT h) (k a Jo _ ha) (StmsV.keep t h1 k.tail)
theorem StmsV.keep(t:TSame H H'):∀{xs:List V} {ss:List Stm} {f:List Addr},StmsV K H xs ss f->Kept f H H'->StmsV K H' xs ss f
 |_,_,_,.nil,_=>.nil
 |_,_,_,.cons h1 h2,k=>.cons (StmV.keep t h1 k.left) (StmsV.keep t h2 k.right)
end
theorem StmsV.same{xs:List V}{ss:List Stm}(h:StmsV K H xs ss f)(s:Same H H'):StmsV K H' xs ss f:=h.keep s.ts (Kept.of s)
theorem StmV.same{x:V}{s:Stm}(h:StmV K H x s f)(sm:Same H H'):StmV K H' x s f:=h.keep sm.ts (Kept.of sm)
theorem StmsV.length:∀{xs:List V} {ss:List Stm} {f:List Addr},StmsV K H xs ss f->xs.length=ss.length
 |_,_,_,.nil=>rfl
 |_,_,_,.cons _ h=>by rw [dk,dk,StmsV.length h]
theorem StmsV.snoc{y:V}{r:Stm}{g:List Addr}(hy:StmV K H y r g):∀{xs:List V} {ss:List Stm} {f:List Addr},StmsV K H xs ss f->StmsV K H (xs++[y]) (ss++[r]) (f++g)
 |_,_,_,.nil=>by have:=StmsV.cons hy StmsV.nil;rw [iL] at this;exact this
 |_,_,_,.cons h1 h2=>by rw [lz];exact .cons h1 (StmsV.snoc hy h2)
mutual
theorem StmV.tracked:∀{x:V} {s:Stm} {f:List Addr},StmV K H x s f->∀a∈f,∃zs,H a=some (.lst zs)
 |_,_,_,.deed _ _,a,ha=>by cases ha
 |_,_,_,.ifs (f:=f) (g:=g) h ha hb h1 h2,c,hc=>by
  rcases zq5.mp hc with rfl | hc
  ·exact ⟨_,ha⟩
  rcases zq5.mp hc with rfl | hc
  ·exact ⟨_,hb⟩
  rcases zq15.mp hc with hc | hc
  ·exact StmsV.tracked h1 c hc
  ·exact StmsV.tracked h2 c hc
 |_,_,_,.whl h ha h1,c,hc=>by
  rcases zq5.mp hc with rfl | hc
  ·exact ⟨_,ha⟩
  ·exact StmsV.tracked h1 c hc
theorem StmsV.tracked:∀{xs:List V} {ss:List Stm} {f:List Addr},StmsV K H xs ss f->∀a∈f,∃zs,H a=some (.lst zs)
 |_,_,_,.nil,a,ha=>by cases ha
 |_,_,_,.cons h1 h2,a,ha=>by
  rcases zq15.mp ha with ha | ha
  ·exact StmV.tracked h1 a ha
  ·exact StmsV.tracked h2 a ha
end
theorem StmsV.get:∀{xs:List V} {ss:List Stm} {f:List Addr} {i:Nat} {x:V},StmsV K H xs ss f->xs[i]?=some x->∃s g,ss[i]?=some s/\StmV K H x s g/\∀a∈g,a∈f
 |_,_,_,_,_,.nil,e=>by simp at e
 |_,_,_,0,_,.cons h _,e=>by simp at e;subst e;exact zAA _ _ rfl h fun a ha=>l8 _ ha
 |_,_,_,i+1,x,.cons _ t,e=>by obtain ⟨s,g,h1,h2,h3⟩:=StmsV.get (i:=i) (x:=x) t (by simpa using e);exact zAA s g (by simpa using h1) h2 fun a ha=>eM _ (h3 a ha)
theorem lU{α:Type}{l₁ l₂:List α}(h1:l₁.Nodup)(h2:l₂.Nodup)(h:∀a∈l₁,a∉l₂):(l₁++l₂).Nodup:=by rw [zq63];exact zAB h1 h2 fun a ha b hb e=>h a ha (by rw [e];exact hb)
end FS
namespace FP
open PySem L2 FB FS FA PyProof.Rows
variable {K:W.Frag}
end FP
namespace FS
open PySem L2 FB PyProof.Rows
variable {a b:List Stm}
theorem tW{f k:Str}(h:f∈opsL)(hk:opsL.contains k=false):¬f=k:=by rintro rfl;rw [List.contains_eq_mem,decide_eq_false_iff_not] at hk;exact hk h
theorem jT{K:W.Frag}{H:Hp}{q:Addr}{d:Deed}{k:Str}{Z:V->Hp->Prop}(hf:d.fine)(hq:SqT K H q d.vs)(h1:opsL.contains k=false)(h2:¬("tell":Str)=k) (h3:¬("copy":Str)=k) (h:Z (.bl false) H):∃xs v,SqT K H q xs/\atI xs 0=some v/\rEq v (.str k) H Z:=by
 cases d with
 |tell a=>exact zAE _ _ hq rfl rfl (by rw [decide_eq_false (fun z=>h2 (V.str.inj z))];exact h)
 |copy n a=>exact zAE _ _ hq rfl rfl (by rw [decide_eq_false (fun z=>h3 (V.str.inj z))];exact h)
 |op f n a b=>exact zAE _ _ hq rfl rfl (by rw [decide_eq_false (fun z=>tW hf h1 (V.str.inj z))];exact h)
mutual
def Stm.deep:Stm->Nat
 | .deed _=>0
 | .ifs _ a b=>max (cm a) (cm b)+1
 | .whl _ a=>cm a+1
def cm:List Stm->Nat
 | []=>0
 |s::ss=>max s.deep (cm ss)
end
mutual
def Stm.many:Stm->Nat
 | .deed _=>1
 | .ifs _ a b=>bq a+bq b+1
 | .whl _ a=>bq a+1
def bq:List Stm->Nat
 | []=>0
 |s::ss=>s.many+bq ss
end
def Opd.good(ns:List Str)(w:Int):Opd->Prop
 | .box n=>n∈ns
 | .word i=>0<=i/\i<2 ^ w.toNat
def Deed.good(ns:List Str)(w:Int):Deed->Prop
 | .tell a=>Opd.good ns w a
 | .copy d a=>d∈ns/\Opd.good ns w a
 | .op f d a b=>f∈opsL/\d∈ns/\Opd.good ns w a/\Opd.good ns w b
mutual
def Stm.good(ns:List Str)(w:Int):Stm->Prop
 | .deed d=>Deed.good ns w d
 | .ifs n a b=>n∈ns/\bC ns w a/\bC ns w b
 | .whl n a=>n∈ns/\bC ns w a
def bC(ns:List Str)(w:Int):List Stm->Prop
 | []=>True
 |s::ss=>s.good ns w/\bC ns w ss
end
theorem xW(s:Stm):1<=s.many:=by cases s<;>simp [Stm.many]
theorem cU(ss:List Stm):ss.length<=bq ss:=by
 induction ss with
 |nil=>simp [bq]
 |cons s ss ih=>rw [bq,dk];have:=xW s;omega
theorem ir{s:Stm}{ss:List Stm}(h:s∈ss):s.many<=bq ss:=by
 induction ss with
 |nil=>cases h
 |cons x xs ih=>
  rw [bq];rcases zq5.mp h with z | z
  ·subst z;omega
  ·have:=ih z;omega
theorem iS{s:Stm}{ss:List Stm}(h:s∈ss):s.deep<=cm ss:=by
 induction ss with
 |nil=>cases h
 |cons x xs ih=>
  rw [cm];rcases zq5.mp h with z | z
  ·subst z;omega
  ·have:=ih z;omega
theorem ik:cm (a++b)=max (cm a) (cm b):=by
 induction a with
 |nil=>simp [cm]
 |cons s ss ih=>rw [qN,cm,cm,ih,Nat.max_assoc]
theorem fz:bq (a++b)=bq a+bq b:=by
 induction a with
 |nil=>simp [bq]
 |cons s ss ih=>rw [qN,bq,bq,ih];omega
theorem goodL_append{ns:List Str}{w:Int}:bC ns w (a++b)↔bC ns w a/\bC ns w b:=by
 induction a with
 |nil=>simp [bC]
 |cons s ss ih=>rw [qN,bC,bC,ih];exact and_assoc.symm
end FS
namespace FP
open PySem L2 FB FS FA PyProof.Rows
end FP
namespace L2
open PySem PySem.Spec PyProof.Rows
variable {H:Hp} {o:HO} {p:Addr}
def SameX(p:Addr)(H H':Hp):Prop:=∀c o,H c=some o->c≠p->H' c=some o
theorem SameX.refl:SameX p H H:=fun _ _ e _=>e
theorem SameX.trans{H1 H2:Hp}(a:SameX p H H1)(b:SameX p H1 H2):SameX p H H2:=fun c o e n=>b c o (a c o e n) n
theorem SameX.of{H':Hp}(s:Same H H'):SameX p H H':=fun c o e _=>s c o e
theorem SameX.upd:SameX p H (L2.upd H p o):=fun c u e n=>by rw [aq n];exact e
theorem SameX.free{c:Addr}{H':Hp}(s:SameX p H H')(hp:H' p=some o)(h:H' c=none):H c=none:=by
 cases e:H c with
 |none=>rfl
 |some u=>
  have n:c≠p:=fun z=>by subst z;rw [hp] at h;cases h
  rw [s c u e n] at h;cases h
theorem TSame.updI{C dx:Addr}{fs:List (Str×V)}(h:H p=some (.ins C dx fs)):TSame H (L2.upd H p o):=
 ⟨fun b xs e=>by rw [aq (fun z=>by rw [z,h] at e;cases e)];exact e,fun b u v e=>by rw [aq (fun z=>by rw [z,h] at e;cases e)];exact e⟩
end L2
namespace FS
open PySem L2 FB PyProof.Rows
def DY(wd:Int)(a b r:Addr):List (Str×V):=[("width",.int wd),("ins",.ref a),("boxes",.ref b),("rows",.ref r)]
structure ProgAt(K:W.Frag)(C:Addr)(H:Hp)(p:Addr)(wd:Int)(ins oth:List Str)(ss:List Stm)(a b r:Addr)(xs:List V)(f:List Addr):Prop where
 ob:∃dx,H p=some (.ins C dx (DY wd a b r))
 ia:H a=some (.lst (ins.map V.str))
 bx:H b=some (.lst ((ins++oth).map V.str))
 rs:H r=some (.lst xs)
 st:StmsV K H xs ss f
theorem ProgAt.same{K:W.Frag}{C:Addr}{H H':Hp}{p:Addr}{wd:Int}{ins oth:List Str}{ss:List Stm}{a b r:Addr}{xs:List V}{f:List Addr}(h:ProgAt K C H p wd ins oth ss a b r xs f)(s:Same H H'):ProgAt K C H' p wd ins oth ss a b r xs f:=
 ⟨let ⟨dx,e⟩:=h.ob;⟨dx,s _ _ e⟩,s _ _ h.ia,s _ _ h.bx,s _ _ h.rs,h.st.same s⟩
theorem bV{f:Str}{v:V}:∀{fs:List (Str×V)},(fs.map (·.1)).contains f=false->di f v fs=fs++[(f,v)]
 | [],_=>rfl
 | (g,x)::r,h=>by
  rw [dh,List.contains_cons,Bool.or_eq_false_iff] at h;have n:¬g=f:=fun z=>by subst z;simp at h
  rw [show di f v ((g,x)::r)=(if g=f then (g,v)::r else (g,x)::di f v r) from rfl,if_neg n,bV h.2];rfl
end FS
namespace K01M
theorem tb(x w:Nat):x / 2 ^ w % 2=(x.testBit w).toNat:=by
 rw [Nat.testBit_eq_decide_div_mod_eq];have h:x / 2 ^ w % 2=0\/x / 2 ^ w % 2=1:=by omega
 rcases h with h | h<;>simp [h]
end K01M
namespace FO
open PySem L2 K01M FB PyProof.Rows
abbrev ops:List Str:=FB.opsL
def ky(op:Str)(x y w:Int):Int:=
 if op="plus" then (x+y) % 2 ^ w.toNat else if op="less" then (x-y) % 2 ^ w.toNat else if op="and" then Builtin.bitAnd x y else if op="or" then Builtin.bitOr x y
 else if op="xor" then Builtin.bitXor x y else if op="below" then (if x<y then 1 else 0) else if x=y then 1 else 0
theorem F8(a b:Nat):Builtin.bitAnd (a:Int) (b:Int)=((a &&& b:Nat):Int):=by unfold Builtin.bitAnd;rw [decide_eq_true (by omega:(0:Int)<=a),decide_eq_true (by omega:(0:Int)<=b)];rfl
theorem bOr(a b:Nat):Builtin.bitOr (a:Int) (b:Int)=((a ||| b:Nat):Int):=by
 unfold Builtin.bitOr Builtin.bitAnd;have e1:∀z:Nat,Builtin.bitNot (z:Int)=-(z:Int)-1:=fun z=>by unfold Builtin.bitNot;omega
 rw [e1,e1,decide_eq_false (by omega:¬(0:Int)<=-(a:Int)-1),decide_eq_false (by omega:¬(0:Int)<=-(b:Int)-1)];show Builtin.bitNot (Builtin.bitNot (((Builtin.bitNot (-(a:Int)-1)).toNat ||| (Builtin.bitNot (-(b:Int)-1)).toNat:Nat):Int))=_;have e2:∀z:Nat,(Builtin.bitNot (-(z:Int)-1)).toNat=z:=fun z=>by unfold Builtin.bitNot;omega
 rw [e2,e2,e1];unfold Builtin.bitNot;omega
theorem C4{op:Str}{x y w:Int}(ho:op∈ops)(x0:0<=x)(x1:x<2 ^ w.toNat)(y0:0<=y)(y1:y<2 ^ w.toNat)(hw:1<=w):0<=ky op x y w/\ky op x y w<2 ^ w.toNat:=by
 obtain ⟨a,rfl⟩:=qP x0;obtain ⟨b,rfl⟩:=qP y0;have ca:((2 ^ w.toNat:Nat):Int)=2 ^ w.toNat:=by simp
 have ha:a<2 ^ w.toNat:=by rw [<- ca] at x1;omega
 have hb:b<2 ^ w.toNat:=by rw [<- ca] at y1;omega
 have hp:(0:Int)<2 ^ w.toNat:=sD Jm;have h2:(2:Int)<=2 ^ w.toNat:=by have:2 ^ 1<=2 ^ w.toNat:=Aq Jm Jn;rw [<- ca];omega
 unfold ky
 split
 ·exact ⟨gi _ Jn,js _ hp⟩
 split
 ·exact ⟨gi _ Jn,js _ hp⟩
 split
 ·rw [F8,<- ca];have:=Cw (Nat.and_le_left (n:=a) (m:=b)) ha;omega
 split
 ·rw [bOr,<- ca];have:=Nat.or_lt_two_pow ha hb;omega
 split
 ·unfold Builtin.bitXor;rw [F8,bOr,<- ca];have h1:=Nat.or_lt_two_pow ha hb;have h3:(a &&& b)<=(a ||| b):=cR Nat.and_le_left Nat.left_le_or;omega
 split
 ·split<;>omega
 ·split<;>omega
end FO
namespace FR
open PySem L2 FB FS FG FO PyProof.Rows
abbrev Bx:=List (Key×V)
variable {b ws:Bx}
def aJ(b:Bx)(n:Str):Int:=(j6 b n).getD 0
def eK(b:Bx):Opd->Int
 | .box n=>aJ b n
 | .word i=>i
def cY(b:Bx)(w:Int):Deed->Int
 | .tell a=>eK b a
 | .copy _ a=>eK b a
 | .op f _ x y=>ky f (eK b x) (eK b y) w
structure Stt where
 left:List Stm
 bx:Bx
 told:List Int
def doB(w:Int)(d:Deed)(b:Bx):Bx:=match d with
 | .tell _=>b
 | .copy n _=>cv b (.inr n) (.int (cY b w d))
 | .op _ n _ _=>cv b (.inr n) (.int (cY b w d))
def doT(w:Int)(d:Deed)(b:Bx)(t:List Int):List Int:=match d with
 | .tell _=>t++[cY b w d]
 |_=>t
def cF(w:Int)(s:Stt):Stt:=match s.left with
 | []=>s
 | .deed d::ss=>⟨ss,doB w d s.bx,doT w d s.bx s.told⟩
 | .ifs n x y::ss=>⟨(if aJ s.bx n≠0 then x else y)++ss,s.bx,s.told⟩
 | .whl n x::ss=>⟨if aJ s.bx n≠0 then x++.whl n x::ss else ss,s.bx,s.told⟩
def cw(w:Int):Nat->Stt->Stt
 |0,s=>s
 |n+1,s=>cF w (cw w n s)
theorem wJ{w:Int}{s:Stt}(h:s.left=[]):cF w s=s:=by unfold cF;rw [h]
theorem iY{w:Int}{s:Stt}{n:Nat}(h:(cw w n s).left=[]):∀m,cw w (n+m) s=cw w n s
 |0=>rfl
 |m+1=>by rw [<- Nat.add_assoc,cw,iY h m];exact wJ h
theorem rO{w:Int}{s:Stt}{n m:Nat}(h:(cw w n s).left=[])(hm:n<=m):cw w m s=cw w n s:=by obtain ⟨k,rfl⟩:=Nat.exists_eq_add_of_le hm;exact iY h k
structure BxG(ns:List Str)(w:Int)(b:Bx):Prop where
 isI:IntD b
 few:b.length<=1000
 has:∀n∈ns,∃x,j6 b n=some x/\0<=x/\x<2 ^ w.toNat
theorem BxG.get{ns:List Str}{w:Int}{n:Str}(h:BxG ns w b)(hn:n∈ns):0<=aJ b n/\aJ b n<2 ^ w.toNat:=by obtain ⟨x,hx,h0,h1⟩:=h.has n hn;unfold aJ;rw [hx];exact ⟨h0,h1⟩
theorem A4{kvs:List (Key×V)}{n:Str}{x:Int}(h:j6 kvs n=some x):bI kvs (.inr n)=some (.int x):=by
 unfold j6 at h
 split at h
 ·next e=>cases h;exact e
 ·cases h
theorem BxG.val{ns:List Str}{w:Int}{n:Str}(h:BxG ns w b)(hn:n∈ns):bI b (.inr n)=some (.int (aJ b n)):=by obtain ⟨x,hx,_⟩:=h.has n hn;unfold aJ;rw [hx];exact A4 hx
theorem jq{k:Key}{v u:V}(h:bI b k=some u):(cv b k v).length=b.length:=by have:=cI k b;rw [h] at this;unfold cv;rw [if_pos (by rw [this];rfl),zq1]
theorem BxG.put{ns:List Str}{w:Int}{n:Str}{x:Int}(h:BxG ns w b)(hn:n∈ns)(h0:0<=x)(h1:x<2 ^ w.toNat):BxG ns w (cv b (.inr n) (.int x)):=
 ⟨h.isI.put _ _,by rw [jq (h.val hn)];exact h.few,fun m hm=>by
  rw [gf]
  by_cases e:m=n
  ·rw [if_pos e];exact zAC x rfl h0 h1
  ·rw [if_neg e];exact h.has m hm⟩
theorem jz{ns:List Str}{w:Int}{o:Opd}(h:BxG ns w b)(ho:Opd.good ns w o):0<=eK b o/\eK b o<2 ^ w.toNat:=by
 cases o with
 |box n=>exact h.get ho
 |word i=>exact ho
theorem jU{ns:List Str}{w:Int}{d:Deed}(h:BxG ns w b)(hd:Deed.good ns w d)(hw:1<=w):0<=cY b w d/\cY b w d<2 ^ w.toNat:=by
 cases d with
 |tell a=>exact jz h hd
 |copy n a=>exact jz h hd.2
 |op f n x y=>obtain ⟨h1,_,h3,h4⟩:=hd;have a:=jz h h3;have b:=jz h h4;exact C4 h1 a.1 a.2 b.1 b.2 hw
theorem BxG.doB{ns:List Str}{w:Int}{d:Deed}(h:BxG ns w b)(hd:Deed.good ns w d)(hw:1<=w):BxG ns w (doB w d b):=by
 have l:=jU h hd hw
 cases d with
 |tell a=>exact h
 |copy n a=>exact h.put hd.1 l.1 l.2
 |op f n x y=>exact h.put hd.2.1 l.1 l.2
structure SG(ns:List Str)(w:Int)(k:Nat)(s:Stt):Prop where
 wd:1<=w/\w<=8
 bx:BxG ns w s.bx
 gd:bC ns w s.left
 many:∀x∈s.left,x.many<=1000
 len:s.left.length<=1000+1001 * k
 told:s.told.length<=k
 words:∀x∈s.told,0<=x/\x<2 ^ w.toNat
theorem SG.step{ns:List Str}{w:Int}{k:Nat}{s:Stt}(h:SG ns w k s):SG ns w (k+1) (cF w s):=by
 obtain ⟨left,bx,told⟩:=s;have hl:=h.len;have ht:=h.told
 cases left with
 |nil=>exact ⟨h.wd,h.bx,h.gd,h.many,by dsimp only [cF] at hl ⊢;omega,by dsimp only [cF] at ht ⊢;omega,h.words⟩
 |cons x ss=>
  have hm:=h.many x Jo;have hms:∀y∈ss,y.many<=1000:=fun y hy=>h.many y (zq9 _ hy);have hg:x.good ns w/\bC ns w ss:=h.gd;dsimp only at hl ht;rw [dk] at hl
  cases x with
  |deed d=>
   refine ⟨h.wd,h.bx.doB hg.1 h.wd.1,hg.2,hms,by show ss.length<=_;omega,?_,?_⟩
   ·show (doT w d bx told).length<=k+1;unfold doT
    cases d with
    |tell a=>rw [zq3,cG];omega
    |copy n a=>show told.length<=_;omega
    |op f n a b=>show told.length<=_;omega
   ·show ∀x∈doT w d bx told,_;unfold doT
    cases d with
    |tell a=>
     intro y hy;rcases zq15.mp hy with z | z
     ·exact h.words y z
     ·rw [zq2.mp z];exact jU h.bx hg.1 h.wd.1
    |copy n a=>exact h.words
    |op f n a b=>exact h.words
  |ifs n a b=>
   have hma:bq a<=1000/\bq b<=1000:=by simp only [Stm.many] at hm;omega
   obtain ⟨_,ga,gb⟩:n∈ns/\bC ns w a/\bC ns w b:=hg.1;have key:∀l,bq l<=1000->bC ns w l->SG ns w (k+1) ⟨l++ss,bx,told⟩:=fun l h1 h2=>
    ⟨h.wd,h.bx,goodL_append.mpr ⟨h2,hg.2⟩,fun y hy=>by
     rcases zq15.mp hy with z | z
     ·exact cR (ir z) h1
     ·exact hms y z,by show (l++ss).length<=_;rw [zq3];have:=cU l;omega,by show told.length<=_;omega,h.words⟩
   show SG ns w (k+1) ⟨(if aJ bx n≠0 then a else b)++ss,bx,told⟩
   split
   ·exact key a hma.1 ga
   ·exact key b hma.2 gb
  |whl n a=>
   have hma:bq a<=1000:=by simp only [Stm.many] at hm;omega
   obtain ⟨gn,ga⟩:n∈ns/\bC ns w a:=hg.1;show SG ns w (k+1) ⟨if aJ bx n≠0 then a++.whl n a::ss else ss,bx,told⟩
   split
   ·refine ⟨h.wd,h.bx,goodL_append.mpr (zAB ga ⟨gn,ga⟩ hg.2),fun y hy=>?_,?_,by show told.length<=_;omega,h.words⟩
    ·rcases zq15.mp hy with z | z
     ·exact cR (ir z) hma
     ·rcases zq5.mp z with z | z
      ·rw [z];exact hm
      ·exact hms y z
    ·show (a++.whl n a::ss).length<=_;rw [zq3,dk];have:=cU a;omega
   ·exact ⟨h.wd,h.bx,hg.2,hms,by show ss.length<=_;omega,by show told.length<=_;omega,h.words⟩
theorem SG.run{ns:List Str}{w:Int}{s:Stt}(h:SG ns w 0 s):∀n,SG ns w n (cw w n s)
 |0=>h
 |n+1=>(SG.run h n).step
def aK(ins:List Str)(ws:Bx)(ns:List Str):Bx:=ns.foldl (fun b n=>cv b (.inr n) (.int (if n∈ins then aJ ws n else 0))) []
theorem eD{ins:List Str}{ns:List Str}{n:Str}:aK ins ws (ns++[n])=cv (aK ins ws ns) (.inr n) (.int (if n∈ins then aJ ws n else 0)):=by unfold aK;rw [sF];rfl
theorem gk{ins:List Str}{w:Int}(hw:∀n∈ins,0<=aJ ws n/\aJ ws n<2 ^ w.toNat):∀(m:Nat)(ns:List Str),ns.length=m->IntD (aK ins ws ns)/\(aK ins ws ns).length<=ns.length/\∀n∈ns,∃x,j6 (aK ins ws ns) n=some x/\0<=x/\x<2 ^ w.toNat:=by
 intro m
 induction m with
 |zero=>
  intro ns h;have:ns=[]:=zq64.mp h;subst this;exact zAB IntD.nil (zq0 _) fun n hn=>by cases hn
 |succ m ih=>
  intro ns h;obtain ⟨l,x,rfl⟩:∃l x,ns=l++[x]:=⟨ns.dropLast,ns.getLast (by intro z;rw [z] at h;simp at h),(v8 _).symm⟩
  have hl:l.length=m:=by simpa using h
  obtain ⟨i1,i2,i3⟩:=ih l hl;rw [eD];refine zAB (i1.put _ _) ?_ fun n hn=>?_
  ·have:=eE (aK ins ws l) (.inr x) (.int (if x∈ins then aJ ws x else 0));rw [zq3,cG];omega
  ·rw [gf]
   by_cases e:n=x
   ·rw [if_pos e];refine zn _ rfl ?_
    split
    ·next hm=>exact hw x hm
    ·exact ⟨Int.le_refl _,sD Jm⟩
   ·rw [if_neg e];refine i3 n ?_;rcases zq15.mp hn with z | z
    ·exact z
    ·exact absurd (zq2.mp z) e
theorem je{ins:List Str}{w:Int}{ns:List Str}(hw:∀n∈ins,0<=aJ ws n/\aJ ws n<2 ^ w.toNat)(hl:ns.length<=1000):BxG ns w (aK ins ws ns):=by obtain ⟨a,b,c⟩:=gk hw _ ns rfl;exact ⟨a,Jn,c⟩
end FR
namespace L2
open PySem PySem.Spec PyProof.Rows
variable {H:Hp} {p r:Addr}
section
variable {K:W.Frag} {te:TE} {ci:List Nat} {σ:St} {acc:Addr} {Q:Hp->Prop} {H1:Hp} {a:Addr} {xs:List V}
end
theorem j5{c:TT}{tb:TS}{D:dm}{σ:St}(Pv:St->Hp->Prop)(μ:St->Hp->Nat)(h0:Pv σ H)
 (hs:∀σ H,Pv σ H->c σ H fun b H1=>if b=true then ∃N:St->Hp->Prop,(∀σ' H',N σ' H'->∃m',m'<μ σ H/\m'=μ σ' H'/\Pv σ' H')/\tb {D with nx:=N,ct:=N,bk:=D.nx} σ H1 else D.nx σ H1):zR c tb D σ H:=by
 refine zn (fun m σ H=>m=μ σ H/\Pv σ H) (zn _ rfl h0) ?_;rintro m σ H ⟨rfl,p⟩;exact hs σ H p
def SameB(p r:Addr)(H H':Hp):Prop:=∀c o,H c=some o->c≠p->c≠r->H' c=some o
theorem SameB.refl:SameB p r H H:=fun _ _ e _ _=>e
theorem SameB.trans{H1 H2:Hp}(a:SameB p r H H1)(b:SameB p r H1 H2):SameB p r H H2:=fun c o e n m=>b c o (a c o e n m) n m
theorem SameB.of{H':Hp}(s:Same H H'):SameB p r H H':=fun c o e _ _=>s c o e
theorem SameB.upd1{o:HO}:SameB p r H (L2.upd H p o):=fun c u e n _=>by rw [aq n];exact e
theorem SameB.upd2{o:HO}:SameB p r H (L2.upd H r o):=fun c u e _ n=>by rw [aq n];exact e
theorem SameX.tsD{H':Hp}{kvs:List (Key×V)}(s:SameX p H H')(h:H p=some (.dK kvs)):TSame H H':=
 ⟨fun b xs e=>s b _ e (bN e h (by intro z;cases z)),fun b o u e=>s b _ e (bN e h (by intro z;cases z))⟩
end L2
namespace FW
open PySem L2 FB FS FG FO FR PyProof.Rows
section
variable {K:W.Frag} {H:Hp}
end
end FW
namespace FX
open PySem L2 FB FS FG FO FR FW PyProof.Rows
structure Nd where
 rd:List Str
 nm:Option Str
 ah:List Int
def seen(old new:Nat->Nat)(i:Nat)(j:Int):Nat:=if j<0 then 0 else if j.toNat<i then new j.toNat else old j.toNat
section
variable {n:Str} {N:List Nd} {v:Nat->Nat->Nat}
end
section
variable {S:List (List Str)}
end
end FX
namespace FX
open PySem L2 FB FS FG FO FR FW PyProof.Rows PySem.Spec
def leS(a b:Str):Bool:=!ltCps b.cps.toList a.cps.toList
theorem leS_iff{a b:Str}:leS a b=true↔a.cps.toList<=b.cps.toList:=by unfold leS;rw [ltCps_eq,Bool.not_eq_true',decide_eq_false_iff_not,List.not_lt]
theorem lT(a b c:Str)(h1:leS a b=true)(h2:leS b c=true):leS a c=true:=leS_iff.mpr (List.le_trans (leS_iff.mp h1) (leS_iff.mp h2))
theorem vN(a b:Str):(leS a b || leS b a)=true:=by rw [kO,leS_iff,leS_iff];exact List.le_total _ _
theorem xU{a b:Str}(h1:leS a b=true)(h2:leS b a=true):a=b:=by have e:=List.le_antisymm (leS_iff.mp h1) (leS_iff.mp h2);obtain ⟨x⟩:=a;obtain ⟨y⟩:=b;have:x=y:=Array.ext' e;rw [this]
def srt(l:List Str):List Str:=l.mergeSort leS
theorem zI(l:List Str):(srt l).Perm l:=List.mergeSort_perm _ _
theorem zH(l:List Str):(srt l).Pairwise fun a b=>leS a b=true:=List.pairwise_mergeSort lT vN l
theorem kl:∀{l:List Str},sortedS l=true->l.Pairwise fun a b=>leS a b=true:=by
 have key:∀(p:Str)(l:List Str),risingS p l=true->(p::l).Pairwise fun a b=>leS a b=true:=by
  intro p l
  induction l generalizing p with
  |nil=>intro _;simp
  |cons x r ih=>
   intro h;have h':(!ltCps x.cps.toList p.cps.toList&&risingS x r)=true:=h;rw [dF] at h';have ih':=ih x h'.2;have hpx:leS p x=true:=h'.1;refine zq79.mpr ⟨fun y hy=>?_,ih'⟩;rcases zq5.mp hy with z | z
   ·rw [z];exact hpx
   ·exact lT _ _ _ hpx ((zq79.mp ih').1 y z)
 intro l h
 cases l with
 |nil=>simp
 |cons x r=>exact key x r h
theorem rT{l l':List Str}(h1:l'.Perm l)(h2:l'.Pairwise fun a b=>leS a b=true):l'=srt l:=
 List.Perm.eq_of_pairwise (fun a b _ _ h1 h2=>xU h1 h2) h2 (zH l) (h1.trans (zI l).symm)
end FX
namespace L2
open PySem PySem.Spec PyProof.Rows
section
variable {X:Cx}
theorem mi:∀{us:List Value} {ns:List Str},StrsAre us ns->Vals (ns.map V.str) us
 |_,_,.nil=>.nil
 |_,_,.cons y t h=>.cons ⟨t,rfl⟩ (mi h)
end
end L2
namespace FZ
open PySem L2 FB FS FG FO FR PyProof.Rows
inductive Ed where
 |stop
 |go (i:Nat)
 |choose (n:Str) (i j:Nat)
 deriving DecidableEq
structure Blk where
 ds:List Deed
 ed:Ed
def bc(b:Blk)(B:List Blk):Nat×List Blk:=match b.ds,b.ed with
 | [],.go i=>(i,B)
 |_,_=>(B.length,B++[b])
mutual
def bZ:Stm->Blk->List Blk->Blk×List Blk
 | .deed d,b,B=>if b.ds.length=8 then (⟨[d],.go (bc b B).1⟩,(bc b B).2) else (⟨d::b.ds,b.ed⟩,B)
 | .ifs n x y,b,B=>
  let w:=bc b B
  let o:=aV x ⟨[],.go w.1⟩ w.2
  let wo:=bc o.1 o.2
  let p:=aV y ⟨[],.go w.1⟩ wo.2
  let wp:=bc p.1 p.2
  (⟨[],.choose n wo.1 wp.1⟩,wp.2)
 | .whl n a,b,B=>
  let w:=bc b B
  let o:=aV a ⟨[],.go w.2.length⟩ (w.2++[⟨[],.stop⟩])
  let wo:=bc o.1 o.2
  (⟨[],.go w.2.length⟩,wo.2.set w.2.length ⟨[],.choose n wo.1 w.1⟩)
def aV:List Stm->Blk->List Blk->Blk×List Blk
 | [],b,B=>(b,B)
 |s::r,b,B=>bZ s (aV r b B).1 (aV r b B).2
end
def b7(ss:List Stm):List Blk:=(aV ss ⟨[],.stop⟩ [⟨[],.stop⟩]).2.set 0 (aV ss ⟨[],.stop⟩ [⟨[],.stop⟩]).1
def Ed.tg:Ed->List Nat
 | .stop=>[]
 | .go i=>[i]
 | .choose _ i j=>[i,j]
theorem kM(b:Blk)(B:List Blk):((bc b B).2=B/\b.ds=[]/\b.ed=.go (bc b B).1)\/((bc b B).1=B.length/\(bc b B).2=B++[b]):=by
 obtain ⟨ds,ed⟩:=b;unfold bc
 cases ds with
 |nil=>
  cases ed with
  |stop=>exact .inr ⟨rfl,rfl⟩
  |go i=>exact .inl (zAB rfl rfl rfl)
  |choose n i j=>exact .inr ⟨rfl,rfl⟩
 |cons d r=>exact .inr ⟨rfl,rfl⟩
theorem bg(b:Blk)(B:List Blk):B.length<=(bc b B).2.length/\(bc b B).2.length<=B.length+1/\∀i,i<B.length->(bc b B).2[i]?=B[i]?:=by
 rcases kM b B with ⟨h,_⟩ | ⟨_,h⟩
 ·rw [h];exact zAB (zq0 _) Jn fun _ _=>rfl
 ·rw [h,zq3,cG];exact zAB Jn Jn fun i hi=>jr hi
theorem cZ{A B C:List Blk}(h1:A.length<=B.length/\∀i,i<A.length->B[i]?=A[i]?)(h2:B.length<=C.length/\∀i,i<B.length->C[i]?=B[i]?):A.length<=C.length/\∀i,i<A.length->C[i]?=A[i]?:=⟨cR h1.1 h2.1,fun i hi=>(h2.2 i (dS hi h1.1)).trans (h1.2 i hi)⟩
theorem dW(b:Blk)(B:List Blk):B.length<=(bc b B).2.length/\∀i,i<B.length->(bc b B).2[i]?=B[i]?:=⟨(bg b B).1,(bg b B).2.2⟩
theorem AS(b:Blk)(B:List Blk):B.length<=(B++[b]).length/\∀i,i<B.length->(B++[b])[i]?=B[i]?:=⟨by rw [zq3];exact lA _ _,fun _ hi=>jr hi⟩
theorem C7{A B:List Blk}(b:Blk)(h:A.length<=B.length/\∀i,i<A.length->B[i]?=A[i]?):A.length<=(B.set A.length b).length/\∀i,i<A.length->(B.set A.length b)[i]?=A[i]?:=⟨by rw [qL];exact h.1,fun i hi=>(wZ (lh hi)).trans (h.2 i hi)⟩
mutual
theorem mr:∀(s:Stm)(b:Blk)(B:List Blk),B.length<=(bZ s b B).2.length/\∀i,i<B.length->(bZ s b B).2[i]?=B[i]?
 | .deed d,b,B=>by
  rw [bZ]
  split
  ·exact dW b B
  ·exact ⟨zq0 _,fun _ _=>rfl⟩
 | .ifs n x y,b,B=>by
  rw [bZ];exact cZ (dW _ _) (cZ (bG x _ _) (cZ (dW _ _) (cZ (bG y _ _) (dW _ _))))
 | .whl n a,b,B=>by rw [bZ];exact cZ (dW b B) (C7 _ (cZ (AS _ _) (cZ (bG a _ _) (dW _ _))))
theorem bG:∀(l:List Stm)(b:Blk)(B:List Blk),B.length<=(aV l b B).2.length/\∀i,i<B.length->(aV l b B).2[i]?=B[i]?
 | [],b,B=>by rw [aV];exact ⟨zq0 _,fun _ _=>rfl⟩
 |s::r,b,B=>by rw [aV];exact cZ (bG r b B) (mr s _ _)
end
mutual
theorem wU:∀(s:Stm)(b:Blk)(B:List Blk),(bZ s b B).2.length<=B.length+3 * s.many
 | .deed d,b,B=>by
  have:=(bg b B).2.1;rw [bZ,Stm.many]
  split<;>dsimp only<;>omega
 | .ifs n x y,b,B=>by
  rw [bZ,Stm.many];dsimp only;have h1:=bg b B;generalize bc b B=w at *;have h2:=cK x ⟨[],.go w.1⟩ w.2;generalize aV x ⟨[],.go w.1⟩ w.2=o at *;have h3:=bg o.1 o.2;generalize bc o.1 o.2=wo at *;have h4:=cK y ⟨[],.go w.1⟩ wo.2;generalize aV y ⟨[],.go w.1⟩ wo.2=p at *;have h5:=bg p.1 p.2;generalize bc p.1 p.2=wp at *;omega
 | .whl n a,b,B=>by rw [bZ,Stm.many];dsimp only;have h1:=bg b B;generalize bc b B=w at *;have h2:=cK a ⟨[],.go w.2.length⟩ (w.2++[⟨[],.stop⟩]);generalize aV a ⟨[],.go w.2.length⟩ (w.2++[⟨[],.stop⟩])=o at *;have h3:=bg o.1 o.2;generalize bc o.1 o.2=wo at *;rw [zq3,cG] at h2;rw [qL];omega
theorem cK:∀(l:List Stm)(b:Blk)(B:List Blk),(aV l b B).2.length<=B.length+3 * bq l
 | [],b,B=>by rw [aV,bq];exact lA _ _
 |s::r,b,B=>by have h1:=cK r b B;rw [aV,bq];generalize aV r b B=o at *;have h2:=wU s o.1 o.2;omega
end
theorem i8(ss:List Stm):(b7 ss).length<=3 * bq ss+1/\0<(b7 ss).length:=by have h1:=cK ss ⟨[],.stop⟩ [⟨[],.stop⟩];have h2:=(bG ss ⟨[],.stop⟩ [⟨[],.stop⟩]).1;unfold b7;rw [qL];simp only [List.length_singleton] at h1 h2;omega
structure BlkG(ns:List Str)(w:Int)(m:Nat)(b:Blk):Prop where
 gd:∀d∈b.ds,Deed.good ns w d
 len:b.ds.length<=8
 tg:∀i∈b.ed.tg,i<m
 nm:∀n i j,b.ed=.choose n i j->n∈ns
theorem BlkG.mono{ns:List Str}{w:Int}{m m':Nat}{b:Blk}(h:BlkG ns w m b)(hm:m<=m'):BlkG ns w m' b:=⟨h.gd,h.len,fun i hi=>dS (h.tg i hi) hm,h.nm⟩
def i4(ns:List Str)(w:Int)(m:Nat)(B:List Blk):Prop:=∀b∈B,BlkG ns w m b
theorem goG{ns:List Str}{w:Int}{m i:Nat}(h:i<m):BlkG ns w m ⟨[],.go i⟩:=⟨fun d hd=>(AL hd).elim,ce _,fun j hj=>by rw [zq2.mp hj];exact h,fun n i j e=>by cases e⟩
theorem zK{ns:List Str}{w:Int}{m:Nat}:BlkG ns w m ⟨[],.stop⟩:=⟨fun d hd=>(AL hd).elim,ce _,fun j hj=>(AL hj).elim,fun n i j e=>by cases e⟩
theorem gF{ns:List Str}{w:Int}{b:Blk}{B:List Blk}(hb:BlkG ns w B.length b)(hB:i4 ns w B.length B):(bc b B).1<(bc b B).2.length/\i4 ns w (bc b B).2.length (bc b B).2:=by
 rcases kM b B with ⟨h1,h2,h3⟩ | ⟨h1,h2⟩
 ·rw [h1];exact ⟨hb.tg _ (by rw [h3];simp [Ed.tg]),hB⟩
 ·rw [h1,h2,zq3,cG];refine ⟨Jn,fun c hc=>?_⟩;rcases zq15.mp hc with z | z
  ·exact (hB c z).mono Jn
  ·rw [zq2.mp z];exact hb.mono Jn
mutual
theorem Cj{ns:List Str}{w:Int}:∀(s:Stm)(b:Blk)(B:List Blk),s.good ns w->BlkG ns w B.length b->i4 ns w B.length B->BlkG ns w (bZ s b B).2.length (bZ s b B).1/\i4 ns w (bZ s b B).2.length (bZ s b B).2
 | .deed d,b,B,hs,hb,hB=>by
  rw [bZ]
  split
  ·obtain ⟨h1,h2⟩:=gF hb hB;exact ⟨⟨fun c hc=>by rw [zq2.mp hc];exact hs,Jo,fun i hi=>by rw [zq2.mp hi];exact h1,fun n i j e=>by cases e⟩,h2⟩
  ·next hl=>
   have:=hb.len;exact ⟨⟨fun c hc=>by
    rcases zq5.mp hc with z | z
    ·rw [z];exact hs
    ·exact hb.gd c z,by rw [dk];omega,hb.tg,hb.nm⟩,hB⟩
 | .ifs n x y,b,B,hs,hb,hB=>by
  rw [bZ];dsimp only;obtain ⟨h1,h2⟩:=gF hb hB;generalize bc b B=w0 at *;obtain ⟨h3,h4⟩:=iz x ⟨[],.go w0.1⟩ w0.2 hs.2.1 (goG h1) h2;have l3:=bG x ⟨[],.go w0.1⟩ w0.2;generalize aV x ⟨[],.go w0.1⟩ w0.2=o at *;obtain ⟨h5,h6⟩:=gF h3 h4;have l5:=bg o.1 o.2;generalize bc o.1 o.2=wo at *;obtain ⟨h7,h8⟩:=iz y ⟨[],.go w0.1⟩ wo.2 hs.2.2 (goG Jn) h6;have l7:=bG y ⟨[],.go w0.1⟩ wo.2;generalize aV y ⟨[],.go w0.1⟩ wo.2=p at *;obtain ⟨h9,h10⟩:=gF h7 h8;have l9:=bg p.1 p.2;generalize bc p.1 p.2=wp at *;refine ⟨⟨fun d hd=>(AL hd).elim,ce _,fun i hi=>?_,fun m i j e=>by cases e;exact hs.1⟩,h10⟩;have hi':i∈[wo.1,wp.1]:=hi;rcases zq5.mp hi' with z | z
  ·omega
  ·rw [zq2.mp z];exact h9
 | .whl n a,b,B,hs,hb,hB=>by
  rw [bZ];dsimp only;obtain ⟨h1,h2⟩:=gF hb hB;generalize bc b B=w0 at *;have hB2:i4 ns w (w0.2++[(⟨[],.stop⟩:Blk)]).length (w0.2++[(⟨[],.stop⟩:Blk)]):=fun c hc=>by
   rw [zq3,cG];rcases zq15.mp hc with z | z
   ·exact (h2 c z).mono Jn
   ·rw [zq2.mp z];exact zK
  obtain ⟨h3,h4⟩:=iz a ⟨[],.go w0.2.length⟩ (w0.2++[⟨[],.stop⟩]) hs.2 (goG (by rw [zq3,cG];omega)) hB2;have l3:=bG a ⟨[],.go w0.2.length⟩ (w0.2++[⟨[],.stop⟩]);generalize aV a ⟨[],.go w0.2.length⟩ (w0.2++[⟨[],.stop⟩])=o at *;rw [zq3,cG] at l3;obtain ⟨h5,h6⟩:=gF h3 h4;have l5:=bg o.1 o.2;generalize bc o.1 o.2=wo at *;rw [qL];refine ⟨goG Jn,fun c hc=>?_⟩;rcases D5 hc with z | z
  ·exact h6 c z
  ·rw [z];refine ⟨fun d hd=>(AL hd).elim,ce _,fun i hi=>?_,fun m i j e=>by cases e;exact hs.1⟩;have hi':i∈[wo.1,w0.1]:=hi;rcases zq5.mp hi' with y | y
   ·rw [y];exact h5
   ·rw [zq2.mp y];omega
theorem iz{ns:List Str}{w:Int}:∀(l:List Stm)(b:Blk)(B:List Blk),bC ns w l->BlkG ns w B.length b->i4 ns w B.length B->BlkG ns w (aV l b B).2.length (aV l b B).1/\i4 ns w (aV l b B).2.length (aV l b B).2
 | [],b,B,_,hb,hB=>by rw [aV];exact ⟨hb,hB⟩
 |s::r,b,B,hl,hb,hB=>by obtain ⟨h1,h2⟩:=iz r b B hl.2 hb hB;rw [aV];exact Cj s _ _ hl.1 h1 h2
end
theorem jN{ns:List Str}{w:Int}{ss:List Stm}(h:bC ns w ss):i4 ns w (b7 ss).length (b7 ss):=by
 obtain ⟨h1,h2⟩:=iz ss ⟨[],.stop⟩ [⟨[],.stop⟩] h zK (fun c hc=>by rw [zq2.mp hc];exact zK);unfold b7;rw [qL];intro c hc;rcases D5 hc with z | z
 ·exact h2 c z
 ·rw [z];exact h1
def Has(F B:List Blk)(k:Nat):Prop:=∀i,k<=i->i<B.length->F[i]?=B[i]?
theorem Has.sub{F B B':List Blk}{k k':Nat}(h:Has F B' k)(hk:k<=k')(hl:B.length<=B'.length)(he:∀i,k'<=i->i<B.length->B'[i]?=B[i]?):Has F B k':=fun i h1 h2=>by rw [h i Jn Jn,he i h1 h2]
end FZ
namespace GA
open PySem L2 FB FS FG FO FR FZ PyProof.Rows
variable {b:Bx} {i:Nat} {l:List Stm} {x:Stm}
def runL(w:Int):Nat->Stt->Int×Stt
 |n,⟨[],b,t⟩=>(n,⟨[],b,t⟩)
 |0,s=>(-1,s)
 |n+1,s=>runL w n (cF w s)
theorem fc{w:Int}{n:Nat}{t:List Int}:runL w n ⟨[],b,t⟩=((n:Int),(⟨[],b,t⟩:Stt)):=by cases n<;>rfl
theorem ff{w:Int}{t:List Int}:runL w 0 ⟨x::l,b,t⟩=(-1,⟨x::l,b,t⟩):=rfl
theorem d4{w:Int}{n:Nat}{t:List Int}:runL w (n+1) ⟨x::l,b,t⟩=runL w n (cF w ⟨x::l,b,t⟩):=rfl
theorem nj{w:Int}:∀{n:Nat} {s:Stt},(runL w n s).1<=n/\-1<=(runL w n s).1
 |n,⟨[],b,t⟩=>by rw [fc];exact ⟨Int.le_refl _,by dsimp only;omega⟩
 |0,⟨x::l,b,t⟩=>by rw [ff];exact ⟨show (-1:Int)<=((0:Nat):Int) by decide,Int.le_refl _⟩
 |n+1,⟨x::l,b,t⟩=>by rw [d4];have:=nj (w:=w) (n:=n) (s:=cF w ⟨x::l,b,t⟩);omega
theorem kA{w:Int}:∀(n:Nat)(s:Stt),cw w (n+1) s=cw w n (cF w s)
 |0,s=>rfl
 |n+1,s=>by have h:=kA (w:=w) n s;show cF w (cw w (n+1) s)=cF w (cw w n (cF w s));rw [h]
theorem m3{w:Int}:∀{n:Nat} {s:Stt},(runL w n s).2=cw w n s/\(0<=(runL w n s).1↔(cw w n s).left=[])
 |n,⟨[],b,t⟩=>by
  rw [fc];have h:=iY (w:=w) (s:=⟨[],b,t⟩) (n:=0) rfl n;rw [Nat.zero_add] at h;rw [h];exact ⟨rfl,fun _=>rfl,fun _=>by dsimp only;omega⟩
 |0,⟨x::l,b,t⟩=>by
  rw [ff];exact ⟨rfl,fun h=>absurd h (show ¬(0:Int)<=-1 by decide),fun h=>by cases h⟩
 |n+1,⟨x::l,b,t⟩=>by rw [d4,kA];exact m3
theorem wI{w:Int}{r:List Stm}{t:List Int}:cF w ⟨x::l++r,b,t⟩=⟨(cF w ⟨x::l,b,t⟩).left++r,(cF w ⟨x::l,b,t⟩).bx,(cF w ⟨x::l,b,t⟩).told⟩:=by
 cases x with
 |deed d=>rfl
 |ifs n p q=>show Stt.mk ((if aJ b n≠0 then p else q)++(l++r)) b t=⟨(if aJ b n≠0 then p else q)++l++r,b,t⟩;rw [<- lz]
 |whl n p=>
  show Stt.mk (if aJ b n≠0 then p++.whl n p::(l++r) else l++r) b t=⟨(if aJ b n≠0 then p++.whl n p::l else l)++r,b,t⟩
  by_cases h:aJ b n≠0
  ·rw [if_pos h,if_pos h,lz];rfl
  ·rw [if_neg h,if_neg h]
theorem kz{w:Int}{r:List Stm}:∀{n:Nat} {l:List Stm} {b:Bx} {t:List Int},
  (∃m:Nat,(runL w n ⟨l,b,t⟩).1=m/\runL w n ⟨l++r,b,t⟩=runL w m ⟨r,(runL w n ⟨l,b,t⟩).2.bx,(runL w n ⟨l,b,t⟩).2.told⟩)\/
  ((runL w n ⟨l,b,t⟩).1=-1/\runL w n ⟨l++r,b,t⟩=(-1,⟨(runL w n ⟨l,b,t⟩).2.left++r,(runL w n ⟨l,b,t⟩).2.bx,(runL w n ⟨l,b,t⟩).2.told⟩))
 |n,[],b,t=>by
  rw [fc];exact .inl (zn n rfl rfl)
 |0,x::l,b,t=>.inr ⟨rfl,rfl⟩
 |n+1,x::l,b,t=>by rw [d4,qN,d4,<- qN,wI];exact kz (n:=n) (l:=(cF w ⟨x::l,b,t⟩).left)
structure GSt(ns:List Str)(w:Int)(s:Stt):Prop where
 bx:BxG ns w s.bx
 gd:bC ns w s.left
theorem GSt.step{ns:List Str}{w:Int}{s:Stt}(h:GSt ns w s)(hw:1<=w):GSt ns w (cF w s):=by
 obtain ⟨l,b,t⟩:=s;obtain ⟨h1,h2⟩:=h
 cases l with
 |nil=>exact ⟨h1,h2⟩
 |cons x r=>
  obtain ⟨gx,gr⟩:x.good ns w/\bC ns w r:=h2
  cases x with
  |deed d=>exact ⟨h1.doB gx hw,gr⟩
  |ifs n p q=>
   obtain ⟨_,gp,gq⟩:n∈ns/\bC ns w p/\bC ns w q:=gx;refine ⟨h1,?_⟩;show bC ns w ((if aJ b n≠0 then p else q)++r);refine goodL_append.mpr ⟨?_,gr⟩
   split
   ·exact gp
   ·exact gq
  |whl n p=>
   obtain ⟨gn,gp⟩:n∈ns/\bC ns w p:=gx;refine ⟨h1,?_⟩;show bC ns w (if aJ b n≠0 then p++.whl n p::r else r)
   split
   ·exact goodL_append.mpr (zAB gp ⟨gn,gp⟩ gr)
   ·exact gr
theorem mH{w:Int}{d:Deed}{t:List Int}:(doT w d b t).length<=t.length+1:=by
 unfold doT
 cases d with
 |tell a=>simp
 |copy n a=>simp
 |op f n x y=>simp
theorem kI{w:Int}{s:Stt}:(cF w s).told.length<=s.told.length+1:=by
 obtain ⟨l,b,t⟩:=s
 cases l with
 |nil=>exact qK _
 |cons x r=>
  cases x with
  |deed d=>exact mH
  |ifs n p q=>exact qK _
  |whl n p=>exact qK _
theorem GSt.runL{ns:List Str}{w:Int}(hw:1<=w):∀{n:Nat} {s:Stt},GSt ns w s->GSt ns w (runL w n s).2/\(runL w n s).2.told.length<=s.told.length+n
 |n,⟨[],b,t⟩,h=>by rw [fc];exact ⟨h,lA _ _⟩
 |0,⟨x::l,b,t⟩,h=>⟨h,zq0 _⟩
 |n+1,⟨x::l,b,t⟩,h=>by rw [d4];obtain ⟨h1,h2⟩:=GSt.runL hw (n:=n) (h.step hw);have:=kI (w:=w) (s:=⟨x::l,b,t⟩);exact ⟨h1,Jn⟩
theorem iX{w:Int}:∀{n:Nat} {s:Stt} {k:Nat},(runL w n s).1=k->(runL w n s).2.told.length+k<=s.told.length+n
 |n,⟨[],b,t⟩,k,h=>by
  rw [fc] at h ⊢;dsimp only at h ⊢;omega
 |0,⟨x::l,b,t⟩,k,h=>by
  rw [ff] at h;dsimp only at h;omega
 |n+1,⟨x::l,b,t⟩,k,h=>by rw [d4] at h ⊢;have h1:=iX h;have:=kI (w:=w) (s:=⟨x::l,b,t⟩);dsimp only at this ⊢;omega
abbrev BT:=Bx×List Int
def dos(w:Int):List Deed->BT->BT
 | [],s=>s
 |d::r,s=>dos w r (doB w d s.1,doT w d s.1 s.2)
def nxt(b:Bx):Ed->Option Nat
 | .stop=>none
 | .go i=>some i
 | .choose n i j=>some (if aJ b n≠0 then i else j)
theorem oG{w:Int}:∀{ds:List Deed} {s:BT},s.2 <+: (dos w ds s).2
 | [],s=>qQ _
 |d::r,s=>by
  have h:s.2 <+: doT w d s.1 s.2:=by
   unfold doT
   cases d with
   |tell a=>exact Ar _ _
   |copy n a=>exact qQ _
   |op f n x y=>exact qQ _
  exact h.trans (oG (ds:=r) (s:=(doB w d s.1,doT w d s.1 s.2)))
theorem jV{w:Int}{ds:List Deed}{s:BT}{d:Deed}(h:ds[i]?=some d):dos w (ds.take (i+1)) s=(doB w d (dos w (ds.take i) s).1,doT w d (dos w (ds.take i) s).1 (dos w (ds.take i) s).2):=by
 obtain ⟨hi,e⟩:=zq10.mp h;have app:∀(l m:List Deed)(s:BT),dos w (l++m) s=dos w m (dos w l s):=by
  intro l
  induction l with
  |nil=>intro m s;rfl
  |cons x r ih=>intro m s;exact ih m _
 rw [eN hi,e,app];rfl
def Way(F:List Blk)(b:Blk)(i:Nat):Prop:=b=⟨[],.go i⟩\/(F[i]?=some b/\¬∃j,b=⟨[],.go j⟩)
mutual
inductive jG (F:List Blk):Stm->Blk->Blk->Prop where
 |add {d:Deed} {b:Blk}:jG F (.deed d) b ⟨d::b.ds,b.ed⟩
 |cut {d:Deed} {b:Blk} {i:Nat}:Way F b i->jG F (.deed d) b ⟨[d],.go i⟩
 |ifs {n:Str} {x y:List Stm} {b c e:Blk} {i j k:Nat}:Way F b i->kQ F x ⟨[],.go i⟩ c->Way F c j->kQ F y ⟨[],.go i⟩ e->Way F e k->jG F (.ifs n x y) b ⟨[],.choose n j k⟩
 |whl {n:Str} {a:List Stm} {b c:Blk} {i j L:Nat}:Way F b i->F[L]?=some ⟨[],.choose n j i⟩->kQ F a ⟨[],.go L⟩ c->Way F c j->jG F (.whl n a) b ⟨[],.go L⟩
inductive kQ (F:List Blk):List Stm->Blk->Blk->Prop where
 |nil {b:Blk}:kQ F [] b b
 |cons {s:Stm} {r:List Stm} {b c e:Blk}:kQ F r b c->jG F s c e->kQ F (s::r) b e
end
inductive Rep (F:List Blk):List Stm->Blk->Prop where
 |nil:Rep F [] ⟨[],.stop⟩
 |go {l:List Stm} {b:Blk} {i:Nat}:Rep F l b->F[i]?=some b->(¬∃j,b=⟨[],.go j⟩)->Rep F l ⟨[],.go i⟩
 |cons {s:Stm} {l:List Stm} {b c:Blk}:jG F s b c->Rep F l b->Rep F (s::l) c
 |head {n:Str} {a l:List Stm} {b c:Blk} {i j L:Nat}:Way F b i->Rep F l b->F[L]?=some ⟨[],.choose n j i⟩->kQ F a ⟨[],.go L⟩ c->Way F c j->Rep F (.whl n a::l) ⟨[],.choose n j i⟩
theorem Rep.app{F:List Blk}:∀{l r:List Stm} {b c:Blk},kQ F l b c->Rep F r b->Rep F (l++r) c
 |_,_,_,_,.nil,h=>h
 |_,_,_,_,.cons hr hs,h=>.cons hs (Rep.app hr h)
theorem Rep.way{F:List Blk}{b:Blk}(h:Rep F l b)(hw:Way F b i):Rep F l ⟨[],.go i⟩:=by
 rcases hw with rfl | ⟨h1,h2⟩
 ·exact h
 ·exact .go h h1 h2
theorem Rep.hop{F:List Blk}{b0:Blk}(h:Rep F l b0)(e0:b0=⟨[],.go i⟩):∃b,F[i]?=some b/\Rep F l b/\¬∃j,b=⟨[],.go j⟩:=by
 cases h with
 |nil=>cases e0
 |go h1 h2 h3=>cases e0;exact zAC _ h2 h1 h3
 |head=>cases e0
 |cons hs h1=>
  cases hs with
  |add=>cases e0
  |cut=>cases e0
  |ifs=>cases e0
  |whl w0 hL ha hw=>
   cases e0
   exact zAC _ hL (.head w0 h1 hL ha hw) fun ⟨j,e⟩=>by cases e
theorem gG{F:List Blk}{b:Blk}{B:List Blk}(h:Has F (bc b B).2 B.length):Way F b (bc b B).1:=by
 by_cases e:∃j,b=⟨[],.go j⟩
 ·obtain ⟨j,rfl⟩:=e;exact .inl rfl
 ·rcases kM b B with ⟨h1,h2,h3⟩ | ⟨h1,h2⟩
  ·exact absurd ⟨(bc b B).1,by rw [<- h3,<- h2]⟩ e
  ·refine .inr ⟨?_,e⟩;rw [h1,h B.length (zq0 _) (by rw [h2,zq3,cG];omega),h2,j9 (zq0 _),nL];rfl
mutual
theorem Ci{F:List Blk}:∀(s:Stm)(b:Blk)(B:List Blk),Has F (bZ s b B).2 B.length->jG F s b (bZ s b B).1
 | .deed d,b,B,h=>by
  rw [bZ] at h ⊢
  split at h
  ·next hl=>rw [if_pos hl];exact .cut (gG h)
  ·next hl=>
   rw [if_neg hl];exact .add
 | .ifs n x y,b,B,h=>by
  rw [bZ] at h ⊢;dsimp only at h ⊢;have g1:=bg b B;have r1:=fun h=>gG (F:=F) (b:=b) (B:=B) h;generalize bc b B=w at *;have g2:=bG x ⟨[],.go w.1⟩ w.2;have r2:=fun h=>iy (F:=F) x ⟨[],.go w.1⟩ w.2 h;generalize aV x ⟨[],.go w.1⟩ w.2=o at *;have g3:=bg o.1 o.2;have r3:=fun h=>gG (F:=F) (b:=o.1) (B:=o.2) h;generalize bc o.1 o.2=wo at *;have g4:=bG y ⟨[],.go w.1⟩ wo.2;have r4:=fun h=>iy (F:=F) y ⟨[],.go w.1⟩ wo.2 h;generalize aV y ⟨[],.go w.1⟩ wo.2=p at *;have g5:=bg p.1 p.2;have r5:=fun h=>gG (F:=F) (b:=p.1) (B:=p.2) h;generalize bc p.1 p.2=wp at *;have a12:=cR g1.1 g2.1;have a13:=cR a12 g3.1;have a14:=cR a13 g4.1;have b4:=g5.1;have b3:=cR g4.1 b4;have b2:=cR g3.1 b3;have b1:=cR g2.1 b2;have u3:∀i,i<wo.2.length->wp.2[i]?=wo.2[i]?:=fun i h2=>(g5.2.2 i (dS h2 g4.1)).trans (g4.2 i h2);have u2:∀i,i<o.2.length->wp.2[i]?=o.2[i]?:=fun i h2=>(u3 i (dS h2 g3.1)).trans (g3.2.2 i h2);have u1:∀i,i<w.2.length->wp.2[i]?=w.2[i]?:=fun i h2=>(u2 i (dS h2 g2.1)).trans (g2.2 i h2);have e5:Has F wp.2 p.2.length:=h.sub a14 (zq0 _) fun _ _ _=>rfl;have e4:Has F p.2 wo.2.length:=h.sub a13 b4 fun i _ h2=>g5.2.2 i h2;have e3:Has F wo.2 o.2.length:=h.sub a12 b3 fun i _ h2=>u3 i h2;have e2:Has F o.2 w.2.length:=h.sub g1.1 b2 fun i _ h2=>u2 i h2;have e1:Has F w.2 B.length:=h.sub (zq0 _) b1 fun i _ h2=>u1 i h2;exact .ifs (r1 e1) (r2 e2) (r3 e3) (r4 e4) (r5 e5)
 | .whl n a,b,B,h=>by
  rw [bZ] at h ⊢;dsimp only at h ⊢;have g1:=bg b B;have r1:=fun h=>gG (F:=F) (b:=b) (B:=B) h;generalize bc b B=w at *;have g2:=bG a ⟨[],.go w.2.length⟩ (w.2++[⟨[],.stop⟩]);have r2:=fun h=>iy (F:=F) a ⟨[],.go w.2.length⟩ (w.2++[⟨[],.stop⟩]) h;generalize aV a ⟨[],.go w.2.length⟩ (w.2++[⟨[],.stop⟩])=o at *;rw [zq3,cG] at g2 r2;have g3:=bg o.1 o.2;have r3:=fun h=>gG (F:=F) (b:=o.1) (B:=o.2) h;generalize bc o.1 o.2=wo at *;have lset:(wo.2.set w.2.length (⟨[],.choose n wo.1 w.1⟩:Blk)).length=wo.2.length:=qL ..;have c1:w.2.length<o.2.length:=g2.1;have c2:w.2.length<wo.2.length:=dS c1 g3.1;have le2:=nK c2;have nes:∀i,w.2.length<i->(wo.2.set w.2.length (⟨[],.choose n wo.1 w.1⟩:Blk))[i]?=wo.2[i]?:=fun i hi=>wZ (cD hi);have nel:∀i,i<w.2.length->(wo.2.set w.2.length (⟨[],.choose n wo.1 w.1⟩:Blk))[i]?=wo.2[i]?:=fun i hi=>wZ (lh hi);have e3:Has F wo.2 o.2.length:=h.sub (cR g1.1 (nK c1)) (x2 lset.symm) fun i h1 h2=>nes i (dS c1 h1);have e2:Has F o.2 (w.2.length+1):=h.sub (Nat.le_succ_of_le g1.1) (cR g3.1 (x2 lset.symm)) fun i h1 h2=>(nes i h1).trans (g3.2.2 i h2);have e1:Has F w.2 B.length:=h.sub (zq0 _) (cR le2 (x2 lset.symm)) fun i h1 h2=>by rw [nel i h2,g3.2.2 i (Nat.lt_trans h2 c1),g2.2 i (Nat.lt_succ_of_lt h2),jr h2]
  have el:F[w.2.length]?=some ⟨[],.choose n wo.1 w.1⟩:=by rw [h w.2.length g1.1 (dS c2 (x2 lset.symm)),AF c2]
  exact .whl (r1 e1) el (r2 e2) (r3 e3)
theorem iy{F:List Blk}:∀(l:List Stm)(b:Blk)(B:List Blk),Has F (aV l b B).2 B.length->kQ F l b (aV l b B).1
 | [],b,B,_=>by rw [aV];exact .nil
 |s::r,b,B,h=>by rw [aV] at h ⊢;have g1:=bG r b B;have r1:=fun h=>iy (F:=F) r b B h;generalize aV r b B=o at *;have g2:=mr s o.1 o.2;have r2:=fun h=>Ci (F:=F) s o.1 o.2 h;generalize bZ s o.1 o.2=p at *;exact .cons (r1 (h.sub (zq0 _) g2.1 fun i _ h2=>g2.2 i h2)) (r2 (h.sub g1.1 (zq0 _) fun _ _ _=>rfl))
end
theorem mD(ss:List Stm):∃c,(b7 ss)[0]?=some c/\Rep (b7 ss) ss c:=by have g:=bG ss ⟨[],.stop⟩ [⟨[],.stop⟩];have r:=fun h=>iy (F:=b7 ss) ss ⟨[],.stop⟩ [⟨[],.stop⟩] h;have e0:b7 ss=(aV ss ⟨[],.stop⟩ [⟨[],.stop⟩]).2.set 0 (aV ss ⟨[],.stop⟩ [⟨[],.stop⟩]).1:=rfl;generalize aV ss ⟨[],.stop⟩ [⟨[],.stop⟩]=o at *;rw [cG] at g r;refine zn o.1 (by rw [e0,AF Jn]) ?_;have h:=Rep.app (r fun j h1 h2=>by rw [e0,wZ Jn]) (.nil (F:=b7 ss));rwa [iL] at h
end GA
namespace GD
variable {b bt dn:List Nat} {p r:Nat}
section
variable (G:Nat->Nat->Option Int) (so:Nat->Nat) (U:Nat->Int)
def fR(bt:List Nat)(s:Nat):Nat:=bt.countP fun o=>decide (so o=s)
def d6(dn bt:List Nat)(p j:Nat):Bool:=match G j p with
 |none=>true
 |some l=>decide (j∈dn) || (decide (l=0)&&decide (j∈bt))
def bY(dn bt:List Nat)(p:Nat):Bool:=!(decide (so p<3)&&decide ((fR so bt (so p):Int)=U (so p)))&&(List.range p).all (d6 G dn bt p)
def gP(dn bt:List Nat)(p:Nat):List (List Nat):=(if bY G so U dn bt p=true then [bt++[p]] else [])++(if bY G so U dn bt p=false\/so p<3 then [bt] else [])
def bQ(dn:List Nat)(bts:List (List Nat))(p:Nat):List (List Nat):=bts.flatMap fun b=>gP G so U dn b p
def cE(n:Nat)(dn:List Nat):List Nat:=(List.range n).filter fun p=>!decide (p∈dn)
def roomB(dn b ms:List Nat):Bool:=ms.any fun p=>!decide (p∈b)&&bY G so U dn b p
def cq(n:Nat)(dn:List Nat):List (List Nat):=((cE n dn).foldl (bQ G so U dn) [[]]).filter fun b=>!roomB G so U dn b (cE n dn)
def d8(n:Nat)(dn b:List Nat):List Nat:=(List.range n).filter fun p=>decide (p∈dn) || decide (p∈b)
def iD(acc:List (List Nat×List (List Nat)))(k:List Nat)(v:List (List Nat)):List (List Nat×List (List Nat)):=if k∈acc.map (·.1) then acc else acc++[(k,v)]
def ee(n:Nat)(acc:List (List Nat×List (List Nat)))(w:List Nat×List (List Nat))(bs:List (List Nat)):List (List Nat×List (List Nat)):=bs.foldl (fun acc b=>iD acc (d8 n w.1 b) (w.2++[b])) acc
def CU(n:Nat)(ws:List (List Nat×List (List Nat))):List (List Nat×List (List Nat)):=ws.foldl (fun acc w=>ee n acc w (cq G so U n w.1)) []
def cz(n:Nat):Nat->List (List Nat×List (List Nat))
 |0=>[([],[])]
 |r+1=>CU G so U n (cz n r)
inductive Lay (n:Nat):List (List Nat)->List Nat->Prop
 |nil:Lay n [] []
 |snoc {bss dn b}:Lay n bss dn->b∈cq G so U n dn->Lay n (bss++[b]) (d8 n dn b)
structure Fine(dn ms b:List Nat):Prop where
 sub:b.Sublist ms
 lean:∀p∈b,∀j,j<p->d6 G dn b p j=true
 load:∀s,s<3->(fR so b s:Int)<=U s
end
section
variable {G:Nat->Nat->Option Int} {so:Nat->Nat} {U:Nat->Int} {n:Nat}
theorem vj{s:Nat}:fR so (bt++[p]) s=fR so bt s+(if so p=s then 1 else 0):=by unfold fR;rw [List.countP_append];simp [List.countP_cons]
theorem jK{e:List Nat}{j:Nat}(h:d6 G dn b p j=true):d6 G dn (b++e) p j=true:=by
 unfold d6 at *
 split
 ·rfl
 ·rename_i l hl
  rw [hl] at h;simp only [Bool.or_eq_true,Bool.and_eq_true,decide_eq_true_eq,List.mem_append] at *;rcases h with h | ⟨h1,h2⟩
  ·exact .inl h
  ·exact .inr ⟨h1,.inl h2⟩
theorem fits_iff:bY G so U dn bt p=true↔(so p<3->(fR so bt (so p):Int)≠U (so p))/\∀j,j<p->d6 G dn bt p j=true:=by
 unfold bY;simp only [Bool.and_eq_true,Bool.not_eq_true',Bool.and_eq_false_iff,decide_eq_false_iff_not,List.all_eq_true,List.mem_range]
 constructor
 ·rintro ⟨h1,h2⟩;exact ⟨fun h=>h1.elim (fun z=>absurd h z) id,h2⟩
 ·rintro ⟨h1,h2⟩;refine ⟨?_,h2⟩
  by_cases h:so p<3
  ·exact .inr (h1 h)
  ·exact .inl h
theorem Fine.mono{ms ms':List Nat}(h:Fine G so U dn ms b)(hs:ms.Sublist ms'):Fine G so U dn ms' b:=⟨h.sub.trans hs,h.lean,h.load⟩
theorem Fine.add{ms:List Nat}(h:Fine G so U dn ms b)(hf:bY G so U dn b p=true):Fine G so U dn (ms++[p]) (b++[p]):=by
 obtain ⟨h1,h2⟩:=fits_iff.mp hf;refine ⟨h.sub.append (List.Sublist.refl _),fun q hq j hj=>?_,fun s hs=>?_⟩
 ·rcases zq15.mp hq with hq | hq
  ·exact jK (h.lean q hq j hj)
  ·rw [zq2.mp hq] at hj ⊢;exact jK (h2 j hj)
 ·rw [vj];have:=h.load s hs
  by_cases e:so p=s
  ·have:=h1 Jn;rw [if_pos e];rw [e] at this;omega
  ·rw [if_neg e];omega
theorem oW{c:List Nat}(h:c∈gP G so U dn bt p):(bY G so U dn bt p=true/\c=bt++[p])\/c=bt:=by
 unfold gP at h;rcases zq15.mp h with h | h
 ·split at h
  ·exact .inl ⟨by assumption,zq2.mp h⟩
  ·cases h
 ·split at h
  ·exact .inr (zq2.mp h)
  ·cases h
theorem gX{dn:List Nat}:∀(ms pre:List Nat)(bts:List (List Nat)),(∀b∈bts,Fine G so U dn pre b)->∀b∈ms.foldl (bQ G so U dn) bts,Fine G so U dn (pre++ms) b
 | [],pre,bts,h,b,hb=>by rw [iL];exact h b hb
 |p::ms,pre,bts,h,b,hb=>by
  have z:=gX ms (pre++[p]) (bQ G so U dn bts p) (fun c hc=>by
   obtain ⟨b',hb',hc⟩:=zq106.mp hc;rcases oW hc with ⟨hf,rfl⟩ | rfl
   ·exact (h _ hb').add hf
   ·exact (h _ hb').mono (List.sublist_append_left ..)) b hb
  rwa [lz] at z
theorem iT(hU:∀s,s<3->0<U s)(h:b∈cq G so U n dn):Fine G so U dn (cE n dn) b:=by
 have z:=gX (G:=G) (so:=so) (U:=U) (dn:=dn) (cE n dn) [] [[]] (fun c hc=>by rw [zq2.mp hc];exact ⟨List.Sublist.refl _,fun p hp=>(by cases hp),fun s hs=>by have:=hU s hs;simp [fR];omega⟩) b (zq39.mp h).1
 rwa [sG] at z
theorem vy(h:b∈cq G so U n dn):∀p∈cE n dn,p∉b->bY G so U dn b p=false:=by intro p hp hb;have z:=(zq39.mp h).2;simp only [Bool.not_eq_true',roomB,List.any_eq_false,Bool.and_eq_true,not_and,Bool.not_eq_true',decide_eq_false_iff_not] at z;simpa using z p hp hb
theorem miss_iff:p∈cE n dn↔p<n/\p∉dn:=by unfold cE;rw [zq39,zq36];simp
theorem fX:(cE n dn).Pairwise (· < ·):=List.Pairwise.filter _ zq90
def fw(G:Nat->Nat->Option Int)(so:Nat->Nat)(U:Nat->Int)(dn:List Nat)(b:List Nat)(p:Nat):List Nat:=if bY G so U dn b p=true then b++[p] else b
theorem oR{dn:List Nat}:∀(ms:List Nat)(b:List Nat)(bts:List (List Nat)),b∈bts->ms.foldl (fw G so U dn) b∈ms.foldl (bQ G so U dn) bts
 | [],_,_,h=>h
 |p::ms,b,bts,h=>by
  refine oR ms _ _ (zq106.mpr (zn b h ?_));unfold fw gP
  cases hf:bY G so U dn b p<;>simp
theorem jX{dn:List Nat}:∀(ms:List Nat)(b:List Nat),∃e,ms.foldl (fw G so U dn) b=b++e/\∀q∈e,q∈ms
 | [],b=>zn ([]) Jo fun q hq=>by cases hq
 |p::ms,b=>by
  obtain ⟨e,h1,h2⟩:=jX ms (fw G so U dn b p);rw [As,h1];unfold fw
  split
  ·exact zn (p::e) Jo fun q hq=>by rcases zq5.mp hq with rfl | hq<;>simp_all
  ·exact zn e rfl fun q hq=>zq9 _ (h2 q hq)
theorem B1{e:List Nat}{s:Nat}:fR so b s<=fR so (b++e) s:=by unfold fR;rw [List.countP_append];omega
theorem rj(hU:∀s,s<3->0<U s):(cE n dn).foldl (fw G so U dn) []∈cq G so U n dn:=by
 have hin:=oR (G:=G) (so:=so) (U:=U) (dn:=dn) (cE n dn) [] [[]] Jo;have hfin:=gX (G:=G) (so:=so) (U:=U) (dn:=dn) (cE n dn) [] [[]] (fun c hc=>by rw [zq2.mp hc];exact ⟨List.Sublist.refl _,fun p hp=>(by cases hp),fun s hs=>by have:=hU s hs;simp [fR];omega⟩) _ hin
 refine zq39.mpr ⟨hin,?_⟩;simp only [Bool.not_eq_true',roomB,List.any_eq_false,Bool.and_eq_true,not_and,Bool.not_eq_true',decide_eq_false_iff_not];intro p hp hb hf;obtain ⟨pre,post,e⟩:=List.append_of_mem hp;have srt:=fX (n:=n) (dn:=dn);rw [e] at srt hb hf hfin;rw [sF,As] at hb hf hfin;obtain ⟨b0,hb0⟩:∃b0,b0=List.foldl (fw G so U dn) [] pre:=⟨_,rfl⟩
 rw [<- hb0] at hb hf hfin;obtain ⟨e2,h1,h2⟩:=jX (G:=G) (so:=so) (U:=U) (dn:=dn) post (fw G so U dn b0 p);rw [h1] at hb hf hfin;have srt2:=(List.pairwise_append.mp srt).2.1;rw [zq79] at srt2;unfold fw at hb hf hfin
 by_cases hfb:bY G so U dn b0 p=true
 ·rw [if_pos hfb] at hb;exact hb Jo
 ·rw [if_neg hfb] at hf hfin;obtain ⟨f1,f2⟩:=fits_iff.mp hf;refine hfb (fits_iff.mpr ⟨fun hs hc=>?_,fun j hj=>?_⟩)
  ·have a:=hfin.load _ hs;have b:=B1 (so:=so) (b:=b0) (e:=e2) (s:=so p);exact f1 hs Jn
  ·have z:=f2 j hj;unfold d6 at z ⊢
   cases hg:G j p with
   |none=>rfl
   |some l=>
    rw [hg] at z;simp only [Bool.or_eq_true,Bool.and_eq_true,decide_eq_true_eq,List.mem_append] at z ⊢;rcases z with z | ⟨z1,z2 | z2⟩
    ·exact .inl z
    ·exact .inr ⟨z1,z2⟩
    ·have:=srt2.1 j (h2 j z2);omega
theorem tH(hU:∀s,s<3->0<U s)(h:b∈cq G so U n dn)(hm:cE n dn≠[]):b≠[]:=by
 rintro rfl;obtain ⟨p,hp⟩:∃p,p∈cE n dn:=Au _ hm;have least:∀k p,p<=k->p∈cE n dn->∃q∈cE n dn,∀j,j<q->j∈dn:=by
  intro k
  induction k with
  |zero=>intro p hk hp;exact zn p hp fun j hj=>by omega
  |succ k ih=>
   intro p hk hp
   by_cases ha:∀j,j<p->j∈dn
   ·exact zn p hp ha
   ·have:∃j,j<p/\j∉dn:=by apply Classical.byContradiction;intro h';apply ha;intro j hj;apply Classical.byContradiction;intro h'';exact h' (zn j hj h'')
    obtain ⟨j,hj,hjd⟩:=this;have:=(miss_iff.mp hp).1;exact ih j Jn (miss_iff.mpr ⟨Jn,hjd⟩)
 obtain ⟨q,hq,hall⟩:=least p p (zq0 _) hp;have z:=vy h q hq Jo;have y:bY G so U dn [] q=true:=by
  refine fits_iff.mpr ⟨fun hs hc=>?_,fun j hj=>?_⟩
  ·have:=hU _ hs;simp [fR] at hc;omega
  ·unfold d6
   split
   ·rfl
   ·simp [hall j hj]
 rw [y] at z
 cases z
theorem Bc:p∈d8 n dn b↔p<n/\(p∈dn\/p∈b):=by unfold d8;rw [zq39,zq36];simp
def Can(n:Nat)(dn:List Nat):Prop:=dn.Sublist (List.range n)
theorem mF:Can n (d8 n dn b):=List.filter_sublist
theorem Can.lt(h:Can n dn)(hp:p∈dn):p<n:=zq36.mp (h.subset hp)
theorem Can.sorted(h:Can n dn):dn.Pairwise (· < ·):=List.Pairwise.sublist h zq90
theorem kF:∀{a b:List Nat},a.Pairwise (· < ·)->b.Pairwise (· < ·)->(∀p,p∈a↔p∈b)->a=b
 | [],[],_,_,_=>rfl
 | [],y::b,_,_,h=>absurd ((h y).mpr Jo) Jo
 |x::a,[],_,_,h=>absurd ((h x).mp Jo) Jo
 |x::a,y::b,ha,hb,h=>by
  rw [zq79] at ha hb;have exy:x=y:=by
   have h1:=(h x).mp Jo;have h2:=(h y).mpr Jo;rcases zq5.mp h1 with e | h1
   ·exact e
   ·rcases zq5.mp h2 with e | h2
    ·exact e.symm
    ·have:=ha.1 y h2;have:=hb.1 x h1;omega
  subst exy;rw [kF ha.2 hb.2 fun p=>?_]
  constructor
  ·intro hp;rcases zq5.mp ((h p).mp (zq9 _ hp)) with e | z
   ·have:=ha.1 p hp;omega
   ·exact z
  ·intro hp;rcases zq5.mp ((h p).mpr (zq9 _ hp)) with e | z
   ·have:=hb.1 p hp;omega
   ·exact z
theorem Can.miss(h:Can n dn)(hne:dn≠List.range n):cE n dn≠[]:=by
 intro e;apply hne;refine kF h.sorted zq90 fun p=>⟨fun hp=>zq36.mpr (h.lt hp),fun hp=>?_⟩
 apply Classical.byContradiction;intro hd;have:=miss_iff.mpr ⟨zq36.mp hp,hd⟩;rw [e] at this
 cases this
theorem Can.len(h:Can n dn):dn.length<=n:=by have:=h.length_le;rwa [gL] at this
theorem Can.len_lt(h:Can n dn)(hne:dn≠List.range n):dn.length<n:=by
 rcases Nat.lt_or_ge dn.length n with z | z
 ·exact z
 ·exact absurd (h.eq_of_length (by rw [gL];have:=h.len;omega)) hne
theorem Lay.can{bss:List (List Nat)}(h:Lay G so U n bss dn):Can n dn:=by
 cases h with
 |nil=>exact List.nil_sublist _
 |snoc=>exact mF
theorem k9(h:Can n dn)(hb:b.Sublist (cE n dn)):(dn++b).Perm (d8 n dn b):=by have hbm:∀p∈b,p<n/\p∉dn:=fun p hp=>miss_iff.mp (hb.subset hp);have nb:b.Nodup:=(List.Pairwise.sublist hb fX).imp fun h=>cD h;have nd:dn.Nodup:=h.sorted.imp fun h=>cD h;have nk:(d8 n dn b).Nodup:=(mF (n:=n) (dn:=dn) (b:=b)).sorted.imp fun h=>cD h;have nab:(dn++b).Nodup:=zq63.mpr (zAB nd nb fun x hx y hy e=>by subst e;exact (hbm x hy).2 hx);refine (D6 nab nk).mpr fun p=>?_;rw [Bc,zq15];exact ⟨fun z=>⟨z.elim (fun z=>h.lt z) fun z=>(hbm p z).1,z⟩,fun z=>z.2⟩
theorem Bb(h:Can n dn)(hb:b.Sublist (cE n dn)):(d8 n dn b).length=dn.length+b.length:=by rw [<- (k9 h hb).length_eq,zq3]
theorem iZ{acc:List (List Nat×List (List Nat))}{k:List Nat}{v:List (List Nat)}{x:List Nat×List (List Nat)}(h:x∈iD acc k v):x∈acc\/x=(k,v):=by
 unfold iD at h
 split at h
 ·exact .inl h
 ·rcases zq15.mp h with h | h
  ·exact .inl h
  ·exact .inr (zq2.mp h)
theorem zw{acc:List (List Nat×List (List Nat))}{k:List Nat}{v:List (List Nat)}:k∈(iD acc k v).map (·.1):=by
 unfold iD
 split
 ·assumption
 ·simp
theorem wG{acc:List (List Nat×List (List Nat))}{k:List Nat}{v:List (List Nat)}{x:List Nat×List (List Nat)}(h:x∈acc):x∈iD acc k v:=by
 unfold iD
 split
 ·exact h
 ·exact l8 _ h
theorem rR{acc:List (List Nat×List (List Nat))}{k:List Nat}{v:List (List Nat)}(h:(acc.map (·.1)).Nodup):((iD acc k v).map (·.1)).Nodup:=by
 unfold iD
 split
 ·exact h
 ·rename_i hk
  rw [cS,zq63];exact zAB h Jo fun x hx y hy e=>by subst e;rw [List.map_singleton,zq2] at hy;subst hy;exact hk hx
structure WOk(G:Nat->Nat->Option Int)(so:Nat->Nat)(U:Nat->Int)(n r:Nat)(ws:List (List Nat×List (List Nat))):Prop where
 lay:∀w∈ws,Lay G so U n w.2 w.1/\w.2.length=r
 nodup:(ws.map (·.1)).Nodup
theorem WOk.set{acc:List (List Nat×List (List Nat))}{bss:List (List Nat)}(h:WOk G so U n (r+1) acc)(hl:Lay G so U n bss dn)(hr:bss.length=r)(hb:b∈cq G so U n dn):WOk G so U n (r+1) (iD acc (d8 n dn b) (bss++[b])):=
 ⟨fun w hw=>by
  rcases iZ hw with hw | rfl
  ·exact h.lay w hw
  ·exact ⟨hl.snoc hb,by simp [hr]⟩,rR h.nodup⟩
theorem WOk.add{w:List Nat×List (List Nat)}(hl:Lay G so U n w.2 w.1)(hr:w.2.length=r):∀(bs:List (List Nat)) (acc:List (List Nat×List (List Nat))),(∀b∈bs,b∈cq G so U n w.1)->WOk G so U n (r+1) acc->WOk G so U n (r+1) (ee n acc w bs)
 | [],_,_,h=>h
 |b::bs,acc,hb,h=>WOk.add hl hr bs _ (fun c hc=>hb c (zq9 _ hc)) (h.set hl hr (hb b Jo))
theorem WOk.step:∀(ws acc:List (List Nat×List (List Nat))),(∀w∈ws,Lay G so U n w.2 w.1/\w.2.length=r)->WOk G so U n (r+1) acc->WOk G so U n (r+1) (ws.foldl (fun acc w=>ee n acc w (cq G so U n w.1)) acc)
 | [],_,_,h=>h
 |w::ws,acc,hw,h=>WOk.step ws _ (fun x hx=>hw x (zq9 _ hx)) (WOk.add (hw w Jo).1 (hw w Jo).2 _ _ (fun _ h=>h) h)
theorem iI:∀r,WOk G so U n r (cz G so U n r)
 |0=>⟨fun w hw=>by rw [cz,zq2] at hw;subst hw;exact ⟨.nil,rfl⟩,by simp [cz]⟩
 |r+1=>WOk.step _ _ (iI r).lay ⟨fun w hw=>(by cases hw),Jo⟩
theorem iM{w x:List Nat×List (List Nat)}:∀(bs:List (List Nat)) (acc:List (List Nat×List (List Nat))),x∈acc->x∈ee n acc w bs
 | [],_,h=>h
 |b::bs,acc,h=>iM bs _ (wG h)
theorem nN{w:List Nat×List (List Nat)}{b:List Nat}:∀(bs:List (List Nat)) (acc:List (List Nat×List (List Nat))),b∈bs->d8 n w.1 b∈(ee n acc w bs).map (·.1)
 | [],_,h=>by cases h
 |c::bs,acc,h=>by
  rcases zq5.mp h with rfl | h
  ·obtain ⟨x,hx,e⟩:=zq21.mp (zw (acc:=acc) (k:=d8 n w.1 b) (v:=w.2++[b]));exact zq21.mpr (zn x (iM bs _ hx) e)
  ·exact nN bs _ h
theorem mh{x:List Nat×List (List Nat)}:∀(ws acc:List (List Nat×List (List Nat))),x∈acc->x∈ws.foldl (fun acc w=>ee n acc w (cq G so U n w.1)) acc
 | [],_,h=>h
 |w::ws,acc,h=>mh ws _ (iM _ _ h)
theorem qr{w:List Nat×List (List Nat)}{b:List Nat}(hb:b∈cq G so U n w.1):∀(ws acc:List (List Nat×List (List Nat))),w∈ws->d8 n w.1 b∈(ws.foldl (fun acc w=>ee n acc w (cq G so U n w.1)) acc).map (·.1)
 | [],_,h=>by cases h
 |c::ws,acc,h=>by
  rcases zq5.mp h with rfl | h
  ·obtain ⟨x,hx,e⟩:=zq21.mp (nN (n:=n) (w:=w) (cq G so U n w.1) acc hb);exact zq21.mpr (zn x (mh ws _ hx) e)
  ·exact qr hb ws _ h
theorem uT(hU:∀s,s<3->0<U s):∀r,cz G so U n r≠[]
 |0=>by simp [cz]
 |r+1=>by
  obtain ⟨w,hw⟩:=Au _ (uT hU r);have z:=qr (rj (G:=G) (so:=so) hU (n:=n) (dn:=w.1)) (cz G so U n r) [] hw;intro e;rw [cz,CU] at e;rw [e] at z
  cases z
theorem qH(hU:∀s,s<3->0<U s):∀r,(∀k,k<r->List.range n∉(cz G so U n k).map (·.1))->∀w∈cz G so U n r,r<=w.1.length
 |0,_,w,_=>ce _
 |r+1,hn,w,hw=>by
  have ih:=qH hU r fun k hk=>hn k Jn;have hno:=hn r Jn;have key:∀(ws acc:List (List Nat×List (List Nat))),(∀w∈ws,Can n w.1/\w.1≠List.range n/\r<=w.1.length)->(∀w∈acc,r+1<=w.1.length)->∀w∈ws.foldl (fun acc w=>ee n acc w (cq G so U n w.1)) acc,r+1<=w.1.length:=by
   intro ws
   induction ws with
   |nil=>intro acc _ h;exact h
   |cons v ws ihw=>
    intro acc h1 h2;refine ihw _ (fun x hx=>h1 x (zq9 _ hx)) ?_;obtain ⟨c1,c2,c3⟩:=h1 v Jo;have inner:∀(bs:List (List Nat)) (acc:List (List Nat×List (List Nat))),(∀b∈bs,b∈cq G so U n v.1)->(∀w∈acc,r+1<=w.1.length)->∀w∈ee n acc v bs,r+1<=w.1.length:=by
     intro bs
     induction bs with
     |nil=>intro acc _ h;exact h
     |cons b bs ihb=>
      intro acc h3 h4;refine ihb _ (fun c hc=>h3 c (zq9 _ hc)) fun x hx=>?_;rcases iZ hx with hx | rfl
      ·exact h4 x hx
      ·have hb:=h3 b Jo;have ne:=tH hU hb (c1.miss c2);have:=zq74.mpr ne;show r+1<=(d8 n v.1 b).length;rw [Bb c1 (iT hU hb).sub];omega
    exact inner _ _ (fun _ h=>h) h2
  exact key _ _ (fun x hx=>zAB ((iI r).lay x hx).1.can (fun e=>hno (zq21.mpr (zn x hx e))) (ih x hx)) (fun _ h=>by cases h) w hw
theorem Cf(hU:∀s,s<3->0<U s)(hn:∀k,k<=r->List.range n∉(cz G so U n k).map (·.1)):r<n:=by obtain ⟨w,hw⟩:=Au _ (uT (G:=G) (so:=so) (U:=U) (n:=n) hU r);have h1:=qH hU r (fun k hk=>hn k Jn) w hw;have h2:=((iI r).lay w hw).1.can.len_lt fun e=>hn r (zq0 _) (zq21.mpr (zn w hw e));omega
theorem iU{dn:List Nat}:∀(bts:List (List Nat)) (p:Nat),(bQ G so U dn bts p).length<=2 * bts.length
 | [],_=>by simp [bQ]
 |b::bts,p=>by
  have:=iU (dn:=dn) bts p;have h1:(gP G so U dn b p).length<=2:=by
   unfold gP;rw [zq3];have a:(if bY G so U dn b p=true then [b++[p]] else []).length<=1:=by split<;>simp
   have c:(if bY G so U dn b p=false\/so p<3 then [b] else []).length<=1:=by split<;>simp
   omega
  unfold bQ at *;rw [List.flatMap_cons,zq3,dk];omega
theorem jY{dn:List Nat}:∀(ms:List Nat)(bts:List (List Nat)),(ms.foldl (bQ G so U dn) bts).length<=2 ^ ms.length * bts.length
 | [],bts=>by simp
 |p::ms,bts=>by
  have a:=jY (dn:=dn) ms (bQ G so U dn bts p);have b:=iU (G:=G) (so:=so) (U:=U) (dn:=dn) bts p;rw [As,dk,Av]
  calc _<=_:=a
   _<=2 ^ ms.length * (2 * bts.length):=Nat.mul_le_mul_left _ b
   _=_:=by rw [Nat.mul_assoc]
def rW:List Nat->List (List Nat)
 | []=>[[]]
 |x::xs=>rW xs++(rW xs).map (x::·)
theorem qz:∀xs,(rW xs).length=2 ^ xs.length
 | []=>rfl
 |x::xs=>by rw [rW,zq3,zq1,qz xs,dk,Av];omega
theorem kd:∀{xs ys:List Nat},ys.Sublist xs->ys∈rW xs
 |_,_,.slnil=>by simp [rW]
 |_,_,.cons _ h=>l8 _ (kd h)
 |_,_,.cons₂ _ h=>eM _ (zq21.mpr (zn _ (kd h) rfl))
theorem lV{α:Type}[DecidableEq α]:∀{L M:List α},L.Nodup->(∀x∈L,x∈M)->L.length<=M.length
 | [],M,_,_=>ce _
 |x::L,M,h,hm=>by rw [zq41] at h;have z:=lV (M:=M.erase x) h.2 fun y hy=>(List.mem_erase_of_ne (fun e=>h.1 (by rw [<- e];exact hy))).mpr (hm y (zq9 _ hy));rw [List.length_erase_of_mem (hm x Jo)] at z;have:=List.length_pos_of_mem (hm x Jo);rw [dk];omega
theorem WOk.len{ws:List (List Nat×List (List Nat))}(h:WOk G so U n r ws):ws.length<=2 ^ n:=by
 have z:=lV (M:=rW (List.range n)) h.nodup fun k hk=>by obtain ⟨w,hw,e⟩:=zq21.mp hk;rw [<- e];exact kd (h.lay w hw).1.can
 rwa [zq1,qz,gL] at z
end
end GD
section
open PySem PySem.Spec PyProof.Rows
namespace L2
variable {d:Addr}
section
variable {prog:Program} {w:World} {A:Around} {E:Value->Shared->Prop} {s:Shared}
theorem pR{κ:Type}[DecidableEq κ]{knd:HeapKind prog w κ}{a:Addr}{xs:List (κ×Addr×Value)}{k:κ}{v:Value}{Q:Value->Shared->Prop}(hu:knd.room A)(hkey:knd.is s.heap k a)(hm:s.heap.DictOfH knd d xs)
 (h1:∀p,atKey xs k=some p->Q p.2 {s with toks:=s.toks+knd.draws k})
 (h2:atKey xs k=none->∀h',h'.DictOfH knd d (xs++[(k,a,v)])->Heap.SameBut d s.heap h'->Q v {s with heap:=h',toks:=s.toks+knd.draws k})
 (hsz:xs.length<=sizeLine):wpAny (model prog w) A (dictSetDefault d (.ref a) v) Q E s:=by
 obtain ⟨o,es,ep,ho,hc,hd,he,his,hn⟩:=hm;unfold dictSetDefault
 try with_reducible refine wpAny_holding ?_
 refine wpAny_bind (knd.pyHash hu hkey (wpAny_bind (wpAny_dictFind_heap (s:={s with toks:=s.toks+knd.draws k}) hu hkey ho hd he his hn ?_ ?_)))
 ·intro hno;have hat:=atKey_none_of_get hno;have hnot:=not_mem_keys_of_get hno;refine wpAny_bind (wpAny_rule (wpAny_bind (wpAny_updateDictKeys (hz:=by have e:=size_of_entries he;omega) (s:={s with toks:=s.toks+knd.draws k}) ho hd (wpAny_pure (h2 hat _ ⟨_,_,ep+1,Ct _ ho (Obj.isFreed_of_dict (Obj.data_mapDictKeys hd _)),
   hc.mapDictKeys _,Obj.data_mapDictKeys hd _,by simp [he,entryOfKey],fun x hx=>?_,?_⟩ (Heap.SameBut.update ..))))))
  ·rcases zq15.mp hx with hx | hx
   ·exact knd.keeps (his x hx) ho hd (Heap.SameBut.update ..)
   ·rw [zq2.mp hx];exact knd.keeps hkey ho hd (Heap.SameBut.update ..)
  ·rw [cS,zq63];refine zAB hn Jo fun x hx y hy e=>?_;simp only [List.map_cons,List.map_nil,List.mem_singleton] at hy;subst hy;exact hnot (e ▸ hx)
 ·intro j p hj;have hat:=atKey_of_get hn hj;refine wpAny_bind (wpAny_dictEntries (s:={s with toks:=s.toks+knd.draws k}) ho hd ?_);rw [entry_at he j,hj];exact wpAny_bind (wpAny_rule (wpAny_pure (h1 p hat)))
theorem kU{κ:Type}[DecidableEq κ](knd:HeapKind prog w κ)(d a:Addr)(hd:(d==sysModules)=false)(dflt:Value):
  MeetsIn prog w (Builtin.«dict.setdefault» ⟨[.ref d,.ref a,dflt],[]⟩) (fun A R s=>knd.room A.in1/\∃k xs,knd.is s.heap k a/\s.heap.DictOfH knd d xs/\xs.length<=sizeLine/\
   (∀p,atKey xs k=some p->R (.ok (.ret p.2)) {s with toks:=s.toks+knd.draws k})/\
   (atKey xs k=none->∀h',h'.DictOfH knd d (xs++[(k,a,dflt)])->Heap.SameBut d s.heap h'->R (.ok (.ret dflt)) {s with heap:=h',toks:=s.toks+knd.draws k})):=
 .of_wp fun A R s ⟨hu,k,xs,hkey,hm,hz,h1,h2⟩=>by unfold Builtin.«dict.setdefault»;refine wpAny_bind ?_;unfold Builtin.Dict.keyAndDefault;refine wpAny_bind (wpAny_notOrdered_dict hm.typeIs ?_);show wpAny _ _ (pure (d,Value.ref a,some dflt)) _ _ s;refine wpAny_pure ?_;show wpAny _ _ (if (d==sysModules)=true then _ else (dictSetDefault d (.ref a) dflt >>= _)) _ _ s;rw [if_neg (by rw [hd];exact zq6)];exact wpAny_bind (pR (hsz:=hz) hu hkey hm (fun p hp=>wpAny_pure (zn p.2 rfl (h1 p hp))) fun hn h' hm' hs'=>wpAny_pure (zn dflt rfl (h2 hn h' hm' hs')))
theorem ot{od:Obj}{Q:Value->Shared->Prop}(hd:(d==sysModules)=false)(hod:s.heap.get? d=some od)(hx:od.ExactDict)
 (h:Q (.ref s.heap.objs.size) {s with heap:=s.heap.push {cls:=.type "dict_items",data:=.fields #[.ref d]}}):wpAny (model prog w) A (call (.builtin "dict.items") [.ref d]) Q E s:=by
 have hT:s.TypeIs (.ref d) "dict":=zn od hod hx.1
 have M:MeetsIn prog w (Builtin.«dict.items» ⟨[.ref d],[]⟩) (fun _ R s=>s.TypeIs (.ref d) "dict"/\R (.ok (.ret (.ref s.heap.objs.size))) {s with heap:=s.heap.push {cls:=.type "dict_items",data:=.fields #[.ref d]}}):=.of_wp fun A R s ⟨hT,h⟩=>by unfold Builtin.«dict.items»;refine wpAny_bind ?_;unfold Builtin.Dict.noArgs;refine wpAny_bind (wpAny_notOrdered_dict hT ?_);show wpAny _ _ (pure d) _ _ s;refine wpAny_pure ?_;show wpAny _ _ (Builtin.Dict.showsAll d >>= _) _ _ s;unfold Builtin.Dict.showsAll;rw [if_neg (by rw [hd];exact zq6)];refine wpAny_bind (wpAny_pure ?_);exact wpAny_bind (wpAny_newObj_type (wpAny_pure (zn _ rfl h)))
 exact call_meetsIn PySem.F.slot_dict_items hT PySem.F.entry_dict_items (PySem.F.args_dict_items_1 _) M ⟨hT,h⟩
theorem oS{v d:Addr}{od:Obj}{es:Array DictEntry}{ep:Nat}{Q:Value->Shared->Prop}(hv:s.heap.IsItemsView v d)(ho:s.heap.get? d=some od)(hd:od.data=.dict es ep)
  (hQ:Q (.ref s.heap.objs.size) {s with heap:=s.heap.push {cls:=.type "dict_itemiterator",data:=.fields #[.none,.bool false,.ref d,.int 0 0,.int es.size 0,.int ep 0,.none,.none]}}) :
  wpAny (model prog w) A (pyIter (.ref v)) Q E s:=by
 obtain ⟨ov,hov,hcv,hdv⟩:=id hv;refine wpAny_pyIter_slot hv.typeIs F.slot_dict_items_iter (wpAny_call_entry F.slot_dict_items_iter hv.typeIs F.entry_dict_items_iter ?_ (F.args_dict_items_iter_1 _));unfold Builtin.«dict_items.__iter__»;refine wpAny_bind (wpAny_pure (wpAny_bind ?_));unfold Builtin.Dict_items.dictOf;refine wpAny_bind (wpAny_field hov hdv (x:=.ref d) rfl (wpAny_pure (wpAny_bind ?_)));unfold Builtin.Dict_items.newIterator;refine wpAny_bind (wpAny_dictEntries ho hd (wpAny_bind (wpAny_dictEpoch ho hd ?_)));rw [show Builtin.Dict_items.ownsTuple "dict_itemiterator"=true by decide];simp only [if_true];refine wpAny_newObj_type (wpAny_pure (zn _ rfl (zAA ("dict_itemiterator") _ (zn _ (dy _ rfl) rfl) F.slot_dict_itemiterator_next.lookup ?_)))
  (by simp only [sizeOk,Builtin.Dict_items.ownedTupleFields,List.size_toArray,List.length_append,List.length_cons,List.length_nil,sizeLine_eq];omega)
 simpa [rawInt,Builtin.Dict_items.ownedTupleFields] using hQ
theorem ph{it d:Addr}{i ep:Nat}{od:Obj}{es:Array DictEntry}{en:DictEntry}{ok ov:Value}{Q:Option Value->Shared->Prop}(hit:IsItemIter s.heap it d i es.size ep ok ov)
  (hod:s.heap.get? d=some od) (hdd:od.data=.dict es ep) (hx:es[i]?=some en)
  (hQ:∀h',IsItemIterOut h' it d (i+1) es.size ep en.key en.val s.heap.objs.size->h'.get? s.heap.objs.size=some {cls:=.type "tuple",data:=.seq #[en.key,en.val]}->h'.objs.size=s.heap.objs.size+1->
   (∀b o,b≠it->s.heap.get? b=some o->h'.get? b=some o)->Q (some (.ref s.heap.objs.size)) {s with heap:=h'}) :
  wpAny (model prog w) A (pyNext (.ref it)) Q E s:=by
 obtain ⟨hp,g,dr,tk,os⟩:=s;have hT:Shared.TypeIs ⟨hp,g,dr,tk,os⟩ (.ref it) "dict_itemiterator":=zn _ hit rfl
 have hown:Builtin.Dict_items.ownsTuple "dict_itemiterator"=true:=by decide
 have hlt:i<es.size:=(Array.getElem?_eq_some_iff.mp hx).1;unfold pyNext;refine wpAny_bind (wpAny_attempt (wpAny_callSpecial?_slot (name:=Str.ofString "__next__") hT F.slot_dict_itemiterator_next (wpAny_call_entry F.slot_dict_itemiterator_next hT F.entry_dict_itemiterator_next ?_ (F.args_dict_itemiterator_next_1 _))));refine wpAny_bind (wpAny_pure (wpAny_bind (wpAny_bind ?_)))
 first | refine wpAny_bind (wpAny_typeNameOfWhole_itemiter hT (wpAny_pure ?_)) | refine wpAny_bind (wpAny_typeNameOf_itemiter hT (wpAny_pure ?_))
 refine wpAny_bind (wpAny_fieldsOf hit rfl ?_);simp only [hown,if_true];show wpAny _ _ (if (Value.ref d==Value.none)=true then _ else _) _ _ _;rw [if_neg (show ¬((Value.ref d==Value.none)=true) from zq6)];refine wpAny_bind (wpAny_pure (wpAny_bind (wpAny_dictEntries hod hdd ?_)));rw [if_neg Jo];refine wpAny_bind (wpAny_pure (wpAny_bind (wpAny_dictEpoch hod hdd ?_)));rw [if_neg Jo];refine wpAny_pure ?_;simp only [show ¬((i:Int)<0) from by omega,if_false,Int.toNat_natCast,hx];refine wpAny_bind ?_
 first | refine wpAny_bind (wpAny_typeNameOfWhole_itemiter hT (wpAny_pure ?_)) | refine wpAny_bind (wpAny_typeNameOf_itemiter hT (wpAny_pure ?_))
 refine wpAny_bind (wpAny_isOneOf_itemiter hT ?_);show wpAny _ _ (setField (.ref it) 3 (rawInt ((i:Int)+1)) >>= _) _ _ ⟨hp,g,dr,tk,os⟩;refine wpAny_bind (wpAny_setField_rec hit Jo fun h₁ he₁ hs₁=>?_);replace hs₁:Heap.SameBut it hp h₁:=hs₁;replace he₁:IsItemIter h₁ it d (i+1) es.size ep ok ov:=by
  have e:((i+1:Nat):Int)=(i:Int)+1:=by omega
  unfold IsItemIter;rw [e];simpa [rawInt] using he₁
 have hT₁:Shared.TypeIs ⟨h₁,g,dr,tk,os⟩ (.ref it) "dict_itemiterator":=zn _ he₁ rfl
 refine wpAny_bind (wpAny_holding (wpAny_bind (wpAny_isOneOf_itemiter hT₁ (wpAny_bind (wpAny_isOneOf_itemiter hT₁ ?_)))));show wpAny _ _ (Builtin.Dict_items.pairFromOwner (.ref it) 6 en.key en.val) _ _ ⟨h₁,g,dr,tk,os⟩;unfold Builtin.Dict_items.pairFromOwner;refine wpAny_bind (wpAny_newTuple ?_);have he₂:IsItemIter (h₁.push {cls:=.type "tuple",data:=.seq #[en.key,en.val]}) it d (i+1) es.size ep ok ov:=cy _ he₁;have hz₁:h₁.objs.size=hp.objs.size:=hs₁.1;have hil:it<hp.objs.size:=zq7 hit;have ht₂:(h₁.push {cls:=.type "tuple",data:=.seq #[en.key,en.val]}).get? hp.objs.size=some {cls:=.type "tuple",data:=.seq #[en.key,en.val]}:=by rw [<- hz₁];exact dy _ rfl
 have hz₂:(h₁.push {cls:=.type "tuple",data:=.seq #[en.key,en.val]}).objs.size=hp.objs.size+1:=by rw [lj,hz₁]
 have hk₂:∀b o,b≠it->hp.get? b=some o->(h₁.push {cls:=.type "tuple",data:=.seq #[en.key,en.val]}).get? b=some o:=fun b o hb e=>cy _ (hs₁.extBut b o hb e);generalize h₁.push {cls:=.type "tuple",data:=.seq #[en.key,en.val]}=h₂ at he₂ ht₂ hz₂ hk₂ ⊢;show wpAny _ _ (Builtin.Dict_items.ownedTupleIsFree (.ref it) >>= _) _ _ ⟨h₂,g,dr,tk,os⟩;rw [hz₁];clear he₁ hs₁ hT₁ hz₁ h₁;refine wpAny_bind ?_;unfold Builtin.Dict_items.ownedTupleIsFree;refine wpAny_bind (wpAny_field he₂ rfl (x:=.none) rfl (wpAny_pure ?_));simp only [if_true];refine wpAny_bind (wpAny_field he₂ rfl (x:=ok) rfl (wpAny_bind (wpAny_field he₂ rfl (x:=ov) rfl ?_)));refine wpAny_bind (wpAny_setField_rec he₂ Jo fun h₃ he₃ hs₃=>?_);replace hs₃:Heap.SameBut it h₂ h₃:=hs₃;replace he₃:IsItemIter h₃ it d (i+1) es.size ep en.key ov:=he₃;refine wpAny_bind (wpAny_setField_rec he₃ Jo fun h₄ he₄ hs₄=>?_);replace hs₄:Heap.SameBut it h₃ h₄:=hs₄;replace he₄:IsItemIter h₄ it d (i+1) es.size ep en.key en.val:=he₄;refine wpAny_bind (wpAny_setField_rec he₄ Jo fun h₅ he₅ hs₅=>?_);replace hs₅:Heap.SameBut it h₄ h₅:=hs₅;replace he₅:IsItemIterOut h₅ it d (i+1) es.size ep en.key en.val hp.objs.size:=he₅;refine wpAny_bind (wpAny_setField_rec he₅ Jo fun h₆ he₆ hs₆=>?_);replace hs₆:Heap.SameBut it h₅ h₆:=hs₆;replace he₆:IsItemIterOut h₆ it d (i+1) es.size ep en.key en.val hp.objs.size:=he₆;have kp:∀b o,b≠it->h₂.get? b=some o->h₆.get? b=some o:=fun b o hb e=>hs₆.extBut b o hb (hs₅.extBut b o hb (hs₄.extBut b o hb (hs₃.extBut b o hb e)));refine wpAny_bind (wpAny_letGo (wpAny_pure (wpAny_pure (zn _ rfl (wpAny_pure (hQ h₆ he₆ (kp _ _ (lh hil) ht₂) ?_ fun b o hb e=>kp b o hb (hk₂ b o hb e)))))));show h₆.objs.size=hp.objs.size+1;rw [hs₆.1,hs₅.1,hs₄.1,hs₃.1,hz₂]
theorem qY{it:Addr}{i ep:Nat}{od:Obj}{es:Array DictEntry}{ok ov:Value}{Q:Option Value->Shared->Prop}(hh:A.handled=none)(hit:IsItemIter s.heap it d i es.size ep ok ov)
 (hod:s.heap.get? d=some od) (hdd:od.data=.dict es ep) (hx:es.size<=i)
 (hQ:∀h',Heap.ExtBut it s.heap h'->Q none {s with heap:=h'}):wpAny (model prog w) A (pyNext (.ref it)) Q E s:=by
 have hT:s.TypeIs (.ref it) "dict_itemiterator":=zn _ hit rfl
 have hown:Builtin.Dict_items.ownsTuple "dict_itemiterator"=true:=by decide
 unfold pyNext;refine wpAny_bind (wpAny_attempt (wpAny_callSpecial?_slot (name:=Str.ofString "__next__") hT F.slot_dict_itemiterator_next (wpAny_call_entry F.slot_dict_itemiterator_next hT F.entry_dict_itemiterator_next ?_ (F.args_dict_itemiterator_next_1 _))));refine wpAny_bind (wpAny_pure (wpAny_bind (wpAny_bind ?_)))
 first | refine wpAny_bind (wpAny_typeNameOfWhole_itemiter hT (wpAny_pure ?_)) | refine wpAny_bind (wpAny_typeNameOf_itemiter hT (wpAny_pure ?_))
 refine wpAny_bind (wpAny_fieldsOf hit rfl ?_);simp only [hown,if_true];show wpAny _ _ (if (Value.ref d==Value.none)=true then _ else _) _ _ s;rw [if_neg (show ¬((Value.ref d==Value.none)=true) from zq6)];refine wpAny_bind (wpAny_pure (wpAny_bind (wpAny_dictEntries hod hdd ?_)));rw [if_neg Jo];refine wpAny_bind (wpAny_pure (wpAny_bind (wpAny_dictEpoch hod hdd ?_)));rw [if_neg Jo];refine wpAny_pure ?_;simp only [show ¬((i:Int)<0) from by omega,if_false,Int.toNat_natCast,Array.getElem?_eq_none hx];refine wpAny_bind ?_
 first | refine wpAny_bind (wpAny_typeNameOfWhole_itemiter hT (wpAny_pure ?_)) | refine wpAny_bind (wpAny_typeNameOf_itemiter hT (wpAny_pure ?_))
 show wpAny _ _ (setField (.ref it) 2 .none >>= _) _ _ s;refine wpAny_bind (wpAny_setField hit rfl Jo ?_);show wpAny _ _ (newExc (.type "StopIteration") [] >>= _) _ _ _;refine wpAny_bind ?_;simp only [newExc,newTuple];refine wpAny_bind (wpAny_newObj_type ?_ (by size_fits));refine wpAny_bind (m:=firstArgMember _ _) (wpAny_of_eq (a:=Value.none) (by first | rfl | (simp only [firstArgMember];rfl)) ?_);refine wpAny_newObj_type ?_ (by size_fits);simp only [raiseNew];refine wpAny_bind (wpAny_handled ?_);rw [show A.in1.handled=none from hh];refine wpAny_bind (wpAny_pure (wpAny_throw ?_));refine wpAny_bind (wpAny_isInstance (T:="StopIteration") (b:=true) ⟨_,dy _ rfl,rfl⟩ isSubtype_stop ?_);exact wpAny_pure (hQ _ (((Heap.SameBut.update ..).extBut.push _).push _))
end
end L2
namespace L2
variable {H:Hp} {Q:VK} {σ:St}
def mx(d:Addr)(o:Obj)(kvs:List (List Key×V)):It:=
  ⟨fun i H=>H d=some (.frz o (.dT kvs))/\i<kvs.length,
   fun i H x H'=>∃p k b v,x=.ref p/\H p=none/\H'=upd H p (.tup [.ref b,v])/\kvs[i]?=some (k,v)/\H b=some (.tup (k.map kV)),
   fun i H=>H d=some (.frz o (.dT kvs))/\kvs.length<=i⟩
theorem Paired.at{α β:Type}{F:α->β->Prop}:∀{l:List α} {m:List β} {i:Nat} {x:α},Paired F l m->l[i]?=some x->∃y,m[i]?=some y/\F x y
 |_,_,_,_,.nil,e=>by simp at e
 |_,_,0,_,.cons r _,e=>by simp at e;subst e;exact zn _ rfl r
 |_,_,i+1,x,.cons _ t,e=>by obtain ⟨u,h1,h2⟩:=Paired.at (i:=i) (x:=x) t (by simpa using e);exact zn u (by simpa using h1) h2
theorem xD{P:Program}{w:World}{H:Hp}{h:Heap}{d:Addr}{o:Obj}{kvs:List (List Key×V)}(ok:HOk P w H h)(e:H d=some (.frz o (.dT kvs))){es:Array DictEntry}{ep:Nat}(ho:o.data=.dict es ep):
  h.get? d=some o/\es.size=kvs.length/\∀(i:Nat)(k:List Key)(v:V),kvs[i]?=some (k,v)->∃(hs:Int)(b:Addr)(u:Value),es[i]?=some (⟨hs,.ref b,u⟩:DictEntry)/\H b=some (.tup (k.map kV))/\RelV v u:=by
 obtain ⟨e1,z,hd,xs,rel,o',es',ep',e2,ex,hdat,hes,hn⟩:=ok d _ e;rw [e1] at e2
 cases e2
 rw [ho] at hdat
 cases hdat
 refine zAB e1 ((size_of_entries hes).trans (Paired.length rel).symm) fun i k v hk=>?_;obtain ⟨⟨k',b,u⟩,hx,h1,h2,h3⟩:=Paired.at rel hk;refine zAO ((tupleKind (bi P w)).hash k') b u ?_ h2 h3;rw [entry_at hes i,hx];rfl
theorem qZ:entryFor table "dict_itemiterator.__iter__"=some Builtin.«dict_keyiterator.__iter__»:=entryFor_alias (id':="dict_keyiterator.__iter__") Jl rfl Jk Jl
theorem vF{prog:Program}{w:World}{A:Around}{E:Value->Shared->Prop}{s:Shared}{it d:Addr}{i n ep:Nat}{ok ov:Value}{Q:Value->Shared->Prop}(he:IsItemIter s.heap it d i n ep ok ov)(h:Q (.ref it) s):wpAny (model prog w) A (pyIter (.ref it)) Q E s:=by
 have hT:s.TypeIs (.ref it) "dict_itemiterator":=zn _ he rfl
 refine wpAny_pyIter_slot hT F.slot_dict_itemiterator_iter (wpAny_call_entry F.slot_dict_itemiterator_iter hT qZ ?_ (F.args_dict_itemiterator_iter_1 _));show wpAny _ _ (ret (.ref it)) _ _ s;exact wpAny_pure (zn _ rfl (zAA ("dict_itemiterator") _ hT F.slot_dict_itemiterator_next.lookup h))
theorem rZ{P:Program}{w:World}{K:W.Frag}{elts:List Expr}{k0:Nat}{pos0:Pos}(d it:Addr)(o:Obj){es:Array DictEntry}{ep:Nat}(ho:o.data=.dict es ep)(kvs:List (List Key×V)):
  jJ P w K (.Tuple elts k0 pos0) (mx d o kvs) [it] it (fun i h=>∃ok ov,IsItemIter h it d i es.size ep ok ov) where
 mem:=by simp
 obj:=fun i h ⟨ok,ov,he⟩ b hb=>by
  have e:b=it:=by simpa using hb
  subst e;exact ⟨_,he,fun v z=>by
   have z':Data.fields _=Data.cell v:=z
   cases z'⟩
 keep:=fun i h h' ⟨ok,ov,he⟩ k=>zAM ok ov (k it Jo _ he)
 item:=by
  intro X hP hw hK hc i pins s σ H E I hf st hg;subst hP hw hK;obtain ⟨ok,ov,he⟩:=st;obtain ⟨hg1,hi⟩:=hg;obtain ⟨hd,hsz,hat⟩:=xD I.hok hg1 ho;obtain ⟨⟨k,v⟩,hk⟩:∃p,kvs[i]?=some p:=⟨_,zq8 hi⟩
  obtain ⟨hs0,b,u,hen,hb,ru⟩:=hat i k v hk;obtain ⟨f0,f1,f2,f3,f4,f5⟩:=hf it Jo;refine ph he hd ho hen fun h1 ho1 hT hz1 hk1=>?_;refine zn _ rfl (wpAny_letOwnedTupleGo_items ho1 fun h2 he2 hs2=>?_);replace hs2:Heap.SameBut it h1 h2:=hs2;have hlt:it<s.heap.objs.size:=zq7 he;have hk2:∀b o,b≠it->s.heap.get? b=some o->h2.get? b=some o:=fun b o b1 q=>(hs2.2 b b1).trans (hk1 b o b1 q);have hT2:h2.get? s.heap.objs.size=some {cls:=.type "tuple",data:=.seq #[.ref b,u]}:=(hs2.2 _ (lh hlt)).trans hT;have hn:H s.heap.objs.size=none:=I.hok.fresh (zq0 _);have nE:∀b v,H b=some v->b≠it:=fun b v q z=>by rw [z,f0] at q;cases q
  have ok2:HOk X.prog X.w H h2:=fun b v q=>(I.hok b v q).stay (fun c v' hc r=>by
   rcases hc with z | z
   ·exact hk2 c v' (by rw [z];exact nE b v q) r
   ·exact hk2 c v' (nE c _ z) r) (fun _ r=>r) fun _ _ r=>r
  have ok3:HOk X.prog X.w (upd H s.heap.objs.size (.tup [.ref b,v])) h2:=fun c w' q=>by
   by_cases hb':c=s.heap.objs.size
   ·subst hb';rw [aj] at q
    cases q
    exact ⟨by show 2<=sizeLine;decide,zn ([.ref b,u]) (.cons rfl (.cons ru .nil)) (zAC _ hT2 rfl ⟨_,rfl⟩)⟩
   ·rw [aq hb'] at q;exact (ok2 c w' q).stay (fun c v' _ r=>r) (fun c r=>by rw [aq (ao r hn)];exact r) fun c ys r=>by rw [aq (ao r hn)];exact r
  have nlt:∀{b:Addr} {o:Obj},s.heap.get? b=some o->b≠s.heap.objs.size:=fun q=>cD (zq7 q);have I2:Inv X pins σ (upd H s.heap.objs.size (.tup [.ref b,v])) {s with heap:=h2,toks:=s.toks}:=
   I.step (g':=s.gens) (d':=s.drawn) (ch:=[it]) (fun b hb=>by rw [zq2.mp hb];exact zAG f3 f1 f4 f5)
    (fun b o _ _ hc q _=>hk2 b o (fun z=>hc (by simp [z])) q)
    (fun b o _ _ hc q _=>⟨o.slots,hk2 b o (fun z=>hc (by simp [z])) q⟩)
    (fun b o _ q n=>by rw [aq (nlt q)];exact n)
    (fun b o hc q=>⟨o,hk2 b o (fun z=>hc (by simp [z])) q⟩)
    (fun b ys q=>by rw [aq (ao q hn)];exact q) (fun b o v q=>by rw [aq (ao q hn)];exact q) (fun b ps q=>⟨#[],by rw [aq (ao q hn),q];simp⟩)
    (fun m ⟨o,es,ep,hm,r⟩=>zAI o es ep (hk2 _ o (Ne.symm f1) hm) r) ok3 I.bare
  refine zAS (.ref s.heap.objs.size) _ I2 rfl (zAN _ k b v rfl hn rfl hk hb) (zAM _ _ he2) fun c hc=>?_;rw [zq2.mp hc,aq (cD hlt)];exact f0
 done:=by intro X hP hw hK hc i pins s σ H E I hf st hg;subst hP hw hK;obtain ⟨ok,ov,he⟩:=st;obtain ⟨hg1,hi⟩:=hg;obtain ⟨hd,hsz,hat⟩:=xD I.hok hg1 ho;obtain ⟨f0,f1,f2,f3,f4,f5⟩:=hf it Jo;exact qY (I.ok.hd hc) he hd ho Jn fun h' eb=>⟨rfl,I.turned (t':=s.toks) (fun b o hb e=>eb b o hb e) f0 f1 f3 f4 f5⟩
 self:=fun _ _ _ _ _ ⟨_,_,he⟩ h=>vF he h
def mL(td:TE):TI:=fun σ H R=>td σ H fun x H1=>∃a kvs,x=.ref a/\H1 a=some (.dT kvs)/\∀o,R (mx a o kvs) (upd H1 a (.frz o (.dT kvs)))
theorem wg{X:Cx}{o:Expr}{td:TE}{apos pos pos0:Pos}{elts:List Expr}{k0:Nat}(ho:PE X o td)(hbase:attributeBase o "items" X.env (eval o X.env)=eval o X.env:=by rfl) (hline:(apos.endLine==pos.line)=true:=by rfl) :
  PI X (.Tuple elts k0 pos0) (.Call (.Attribute o "items" apos) [] [] pos) (mL td):=by
 intro pins s σ H R I h;refine wpAny_Call_method0_late hbase hline (thn (ho pins s σ H _ I h) fun v s1 hhx=>?_);obtain ⟨x,H1,I1,r1,a,kvs,ex,e,q1⟩:=hhx;subst ex
 cases r1
 obtain ⟨h1,h2⟩:=sh (T:="dict") I1 (show RelV (.ref a) (.ref a) from rfl) (.inr (.inr (.inl ⟨rfl,.inr ⟨kvs,e⟩⟩)));refine zBF ("dict") _ PySem.F.plainAttrs_dict PySem.F.slot_dict_items PySem.F.type_dict_items h1 h2 (Calls.callWith_builtin rfl (PySem.evalArgs_none ?_));have okd:=I1.hok a _ e;obtain ⟨z,hd,xs,rel,od,es,ep,g1,g2,g3,g4,g5⟩:=id okd;refine ot hd g1 g2 ?_;refine oS (es:=es) (ep:=ep) (zAC _ (dy _ rfl) rfl rfl) (cy _ g1) g3 ?_;have I2:Inv X pins σ (upd H1 a (.frz od (.dT kvs))) {s1 with heap:=s1.heap,toks:=s1.toks}:=I1.write (x:=a) (e:=a) (by rw [e];exact True.intro) (.inl rfl) (fun b u _ q=>q) ⟨od,g1⟩ ⟨g1,okd.stay (fun _ _ _ q=>q) (fun b q=>by rw [aq (bN q e (fun z=>nomatch z))];exact q) fun b ys q=>by rw [aq (bN q e (fun z=>nomatch z))];exact q⟩
 have I3:=I2.kept (h':=s1.heap.push {cls:=.type "dict_items",data:=.fields #[.ref a]}) (t':=s1.toks) fun b o e=>cy _ e;refine zAV _ ([_]) _ _ _ rfl (I3.kept (t':=s1.toks) fun b o e=>cy _ e) (rZ a _ od g3 kvs) (zAM _ _ (dy _ rfl)) (fun b hb=>?_) (q1 od);rw [zq2.mp hb];exact I3.fpOk (zq0 _) (I3.hok.fresh (zq0 _))
theorem sq{X:Cx}{o:Expr}{td:TE}{apos pos pos0:Pos}{elts:List Expr}{k0:Nat}(ho:XE X o td)(hbase:attributeBase o "items" X.env (eval o X.env)=eval o X.env:=by rfl) (hline:(apos.endLine==pos.line)=true:=by rfl) :
  XI X (.Tuple elts k0 pos0) (.Call (.Attribute o "items" apos) [] [] pos) (mL td):=⟨wg ho.h hbase hline⟩
theorem wq{td:TE}{R:It->Hp->Prop}:mL td σ H R=td σ H fun x H1=>∃a kvs,x=.ref a/\H1 a=some (.dT kvs)/\∀o,R (mx a o kvs) (upd H1 a (.frz o (.dT kvs))):=rfl
theorem xE{d:Addr}{o:Obj}{kvs:List (List Key×V)}{g:TG}{tb:TS}{D:dm}(Pv:Nat->St->Hp->Prop)(h0:Pv 0 σ H)(hl:∀i σ H,i<=kvs.length->Pv i σ H->H d=some (.frz o (.dT kvs)))
 (hs:∀(i:Nat)k v b σ H p,kvs[i]?=some (k,v)->H b=some (.tup (k.map kV))->H p=none->Pv i σ H->g (.ref p) σ (upd H p (.tup [.ref b,v])) fun σ2 H2=>tb {D with nx:=Pv (i+1),ct:=Pv (i+1),bk:=D.nx} σ2 H2) (hd:∀σ H,Pv kvs.length σ H->D.nx σ H):mw (mx d o kvs) g tb D σ H:=by
 refine zn (fun i m σ H=>m=kvs.length-i/\i<=kvs.length/\Pv i σ H) (zAC kvs.length Jo (ce _) h0) ?_;rintro i m σ H ⟨rfl,hi,p⟩;have q:=hl i σ H hi p
 by_cases hlt:i<kvs.length
 ·refine .inr ⟨⟨q,hlt⟩,zn (Pv (i+1)) (fun σ' H' p'=>zAF (kvs.length-(i+1)) Jn rfl hlt p') fun x H' y=>?_⟩;obtain ⟨pp,k,b,v,ex,hn,eH,hk,hb⟩:=y;subst ex eH;exact hs i k v b σ H pp hk hb hn p
 ·obtain rfl:i=kvs.length:=by omega
  exact .inl ⟨⟨q,zq0 _⟩,hd σ H p⟩
section
variable {X:Cx}
def CL:V->List V->Hp->VK->Prop:=fun x vs H Q=>∃(l b:Addr)(kvs:List (List Key×V)) (k:List Key) (v:V),x=.ref l/\vs=[.ref b,v]/\H l=some (.dT kvs)/\H b=some (.tup (k.map kV))/\kvs.length<sizeLine/\
 (∀y,bI kvs k=some y->Q y H)/\(bI kvs k=none->Q v (upd H l (.dT (kvs++[(k,v)]))))
theorem kW(hu:X.A.units+1<cLine):MtM X "dict.setdefault" CL:=by
 intro pins s σ H x vs u us Q I rx rv h;obtain ⟨l,b,kvs,k,v,rfl,rfl,hl,hb,hz,q1,q2⟩:=h
 cases rx
 obtain ⟨u1,u2,rfl,r1,r2⟩:=A1 rv
 cases r1
 obtain ⟨z,hd,xs,rel,dd⟩:=xx I.hok hl;have hlen:=Paired.length rel;refine call_meetsIn PySem.F.slot_dict_setdefault dd.typeIs PySem.F.entry_dict_setdefault (PySem.F.args_dict_setdefault_3 _ _ _) (kU (tupleKind (bi X.prog X.w)) l b hd u2) ⟨tupleKind_room_in1 hu,zAS k xs (gZ I.hok hb) dd Jn (fun p hp=>?_) fun hn h' dd' hs=>?_⟩
 ·have rk:=rel.val k;rw [hp] at rk
  cases hv:bI kvs k with
  |none=>rw [hv] at rk;exact rk.elim
  |some y=>rw [hv] at rk;exact zAA y H (I.tok _) rk (q1 y hv)
 ·have rk:=rel.val k;rw [hn] at rk;have hv:bI kvs k=none:=by
   cases hv:bI kvs k with
   |none=>rfl
   |some y=>rw [hv] at rk;exact rk.elim
  obtain ⟨q,es,ep,hq,h2,h3,h4,_,h5⟩:=dd';refine zAA v _ (ju (ob:=.dT (kvs++[(k,v)])) I (by rw [hl];exact True.intro) hs ⟨q,hq⟩ (zAB (by rw [zq3,cG];omega) hd (zn _ (KT.keeps (Paired.snoc rel (zAB rfl hb r2)) fun c ys ec=>?_) (zAL q es ep hq h2 h3 h4 h5)))) r2 (q2 hv);rw [aq (bN ec hl (fun z=>nomatch z))];exact ec
theorem EM{l b:Addr}{v:V}:CL (.ref l) [.ref b,v] H Q=∃(kvs:List (List Key×V)) (k:List Key),H l=some (.dT kvs)/\H b=some (.tup (k.map kV))/\kvs.length<sizeLine/\
  (∀y,bI kvs k=some y->Q y H)/\(bI kvs k=none->Q v (upd H l (.dT (kvs++[(k,v)])))):=propext ⟨by rintro ⟨_,_,kvs,k,_,e1,e2,q⟩;cases e1;cases e2;exact zAM kvs k q,by rintro ⟨kvs,k,q⟩;exact zBK l b kvs k v rfl rfl q⟩
def uP(tk tv:TE):TE:=fun σ H Q=>∀p,H p=none->tk σ (upd H p (.dT [])) fun x H1=>tv σ H1 fun y H2=>H2 p=some (.dT [])/\∃(b:Addr)(k:List Key),x=.ref b/\H2 b=some (.tup (k.map kV))/\Q (.ref p) (upd H2 p (.dT [(k,y)]))
theorem sj{pos:Pos}{ke ve:Expr}{tk tv:TE}(hu:X.A.units+1<cLine)(hk:XE X ke tk)(hv:XE X ve tv):XE X (.Dict [some ke] [ve] pos) (uP tk tv):=⟨by
 intro pins s σ H Q I q;have hn:=I.hok.fresh (zq0 s.heap.objs.size);have I1:=I.laid (a:=s.heap.objs.size) (o:=.dT []) (h':=s.heap.push {cls:=.type "dict",data:=.dict #[]}) (t':=s.toks) (fun _ _ q=>cy _ q) (zq0 _) (oI s.heap I.big);refine wpAny_Dict_any rfl rfl Jo Jo ?_;refine pairTrees_cons_walk (thn (hk.h pins _ σ _ _ I1 (q _ hn)) fun u s1 ⟨x,H1,J1,rx,q1⟩=>thn (hv.h pins s1 σ H1 _ J1 q1) fun w2 s2 ⟨y,H2,J2,ry,q2⟩=>pairTrees_nil_walk ?_);obtain ⟨e,b,k,ex,hb,q3⟩:=q2;subst ex
 cases rx
 unfold storeAll;rw [List.forIn_cons];obtain ⟨z,hd,xs,rel,dd⟩:=xx J2.hok e
 cases rel
 refine wpAny_bind (wpAny_bind (wpAny_dictSet_heap (hsz:=ce _) (show X.A.units<cLine by omega) (gZ J2.hok hb) dd fun h' dd' hs=>wpAny_pure ?_));dsimp only;rw [List.forIn_nil];refine wpAny_pure (zAA (.ref s.heap.objs.size) _ ?_ rfl q3);obtain ⟨q,es,ep,hq,h2,h3,h4,_,h5⟩:=dd';refine ju J2 (by rw [e];exact True.intro) hs ⟨q,hq⟩ (zAB (by show 1<=sizeLine;decide) hd (zn _ (.cons (zAB rfl ?_ ry) .nil) (zAL q es ep hq h2 h3 h4 h5)));show upd H2 s.heap.objs.size _ b=_;rw [aq (bN hb e (fun z=>nomatch z))];exact hb⟩
theorem yR{tk tv:TE}:uP tk tv σ H Q=∀p,H p=none->tk σ (upd H p (.dT [])) fun x H1=>tv σ H1 fun y H2=>H2 p=some (.dT [])/\∃(b:Addr)(k:List Key),x=.ref b/\H2 b=some (.tup (k.map kV))/\Q (.ref p) (upd H2 p (.dT [(k,y)])):=rfl
theorem wX{pos:Pos}:XE X (.Dict [] [] pos) zP:=⟨fun pins s σ H Q I h=>wpAny_Dict_empty (zAA (.ref s.heap.objs.size) _ (I.laid (a:=s.heap.objs.size) (o:=.dT []) (t':=s.toks) (fun _ _ q=>cy _ q) (zq0 _) (oI s.heap I.big)) rfl (h _ (I.hok.fresh (zq0 _))))⟩
theorem BO:zP σ H Q=∀p,H p=none->Q (.ref p) (upd H p (.dT [])):=rfl
end
end L2
namespace L2
section
variable {prog:Program} {w:World} {A:Around} {E:Value->Shared->Prop} {s:Shared}
theorem oy{Q:List Value->Shared->Prop}{r:Addr}{a b c:Int}{t u v:Tok}{n:Nat}(hh:A.handled=none)(hr:IsRange s.heap r a b c t u v)(hsmall:Builtin.Range.small a b c=true)(hn:Builtin.Range.rangeSize a b c=n)(hlen:n<=2 ^ 24)
  (hQ:∀h' tk acc,(∀b o,s.heap.get? b=some o->h'.get? b=some o)->ItemsOf (fun i v=>∃t,v=.int (a+i * c) t) acc n->Q acc.toList {s with heap:=h',toks:=tk}):wpAny (model prog w) A (collect (.ref r)) Q E s:=by
 unfold collect;refine wpAny_bind (wpAny_runValue (codeAny_builtin F.entry_proto_collect ?_));rw [Around.under_plainId F.plain_proto_collect _];show wpAny _ A.in1 (newList [] >>= fun l=>again (.builtin "list.__iadd__" ⟨[l,.ref r],[]⟩)) _ _ s;refine wpAny_bind (wpAny_newObj_type ?_);refine wpAny_pure ⟨plainId_quiet F.plain_list_iadd _,codeAny_builtin F.entry_list_iadd ?_⟩;rw [Around.under_plainId F.plain_list_iadd _];show wpAny _ A.in1 (Builtin.List.listExtendWith (.ref s.heap.objs.size) (.ref r) (.ref s.heap.objs.size)) _ _ _;have hS:(s.heap.push {cls:=.type "list",data:=.seq ([]:List Value).toArray}).get? s.heap.objs.size=some {cls:=.type "list",data:=.seq #[] 0}:=dy _ rfl;refine wpAny_mono (wpAny_extend_range (A:=A) (s:={s with heap:=s.heap.push {cls:=.type "list",data:=.seq ([]:List Value).toArray}}) (R:=fun r' s'=>∃h' tk acc c',r'=.ok (.ret (.ref s.heap.objs.size))/\s'={s with heap:=h',toks:=tk}/\(∀b o,s.heap.get? b=some o->h'.get? b=some o)/\
   h'.get? s.heap.objs.size=some {cls:=.type "list",dict:=none,data:=.seq acc c',slots:=#[]}/\ItemsOf (fun i v=>∃t,v=.int (a+i * c) t) acc n) hh (cy _ hr) hsmall hn hlen _ _ _ hS
  fun h' tk acc c' hk hS' hacc=>zAN h' tk acc c' rfl rfl (fun b o e=>hk b o (cD (zq7 e)) (cy _ e)) hS' hacc) (fun fin s' h=>?_) (fun e s' h=>?_)
 ·have fin':∀s' r',(∃h' tk acc c',r'=(Except.ok (.ret (.ref s.heap.objs.size)):Result)/\s'={s with heap:=h',toks:=tk}/\(∀b o,s.heap.get? b=some o->h'.get? b=some o)/\
   h'.get? s.heap.objs.size=some {cls:=.type "list",dict:=none,data:=.seq acc c',slots:=#[]}/\ItemsOf (fun i v=>∃t,v=.int (a+i * c) t) acc n)->wpAny (model prog w) A (match Value.ref s.heap.objs.size with
   |Value.ref a=>do
    match (<- load a).data with
     |Data.seq xs _=>pure xs.toList
     |_=>unsupported "internal:collect"
   |_=>unsupported "internal:collect") Q E s':=by
   rintro s' r' ⟨h',tk,acc,c',_,rfl,hk,hS',hacc⟩;show wpAny _ A (load s.heap.objs.size >>= _) _ _ _;refine wpAny_bind (wpAny_load hS' ?_);exact wpAny_pure (hQ h' tk acc hk hacc)
  cases fin with
  |done f=>
   obtain ⟨h',tk,acc,c',e,r⟩:=id h
   cases e
   exact fin' _ _ h
  |again c'=>exact ⟨h.1,codeAny_mono h.2 fun r s'' hr=>by obtain ⟨h',tk,acc,c',e,r⟩:=id hr;subst e;exact fin' _ _ hr⟩
 ·obtain ⟨_,_,_,_,e,_⟩:=h
  cases e
theorem jo(r:Addr)(n:Nat)(hlen:n<=1000):
  Meets (Builtin.«tuple.__new__» ⟨[.type "tuple",.ref r],[]⟩)
   (fun A R s=>A.handled=none/\(∃t u v,IsRange s.heap r 0 n 1 t u v)/\∀(h':Heap)(tk:Nat)(acc:Array Value),(∀b o,s.heap.get? b=some o->h'.get? b=some o)->ItemsOf (fun i v=>∃t,v=.int (0+i * 1) t) acc n->
    R (.ok (.ret (.ref h'.objs.size))) {s with heap:=h'.push {cls:=.type "tuple",data:=.seq acc},toks:=tk}):=
 .of_wp fun prog w A R s h=>by
  obtain ⟨hh,⟨t,u,v,hr⟩,h⟩:=h;have hsub:=sub_tuple_self;have hinit:=init_tuple_lookup;have hmh:=madeHere_tuple;have hT:s.TypeIs (.ref r) "range":=zn _ hr rfl
  have hh1:A.in1.handled=none:=hh;have hsm:Builtin.Range.small 0 n 1=true:=small_one Jn Jn Jn Jn;have hsz:Builtin.Range.rangeSize 0 n 1=n:=by rw [rangeSize_one];split<;>omega +splitNatSub
  wp_walk using AutoSeq1.wpAny_loadPart' hr,wpAny_typeOf hT,oy hh1 hr hsm hsz (cR hlen Jm)
  intro h' tk acc hk hacc;show wpAny _ _ (Builtin.Tuple.tupleExact acc.toList.toArray >>= fun v=>ret v) _ _ _;unfold Builtin.Tuple.tupleExact;refine wpAny_bind (wpAny_newObj_type ?_ (show acc.toList.toArray.size<=sizeLine by simp only [Array.toArray_toList];rw [hacc.1,sizeLine_eq];omega));refine wpAny_pure (zn _ rfl ?_);have e:acc.toList.toArray=acc:=by simp
  rw [e];exact h h' tk acc hk hacc
theorem jO{r:Addr}{n:Nat}{t u v:Tok}{Q:Value->Shared->Prop}(hh:A.handled=none)(hlen:n<=1000)(hr:IsRange s.heap r 0 n 1 t u v)
  (h:∀(h':Heap)(tk:Nat)(acc:Array Value),(∀b o,s.heap.get? b=some o->h'.get? b=some o)->ItemsOf (fun i v=>∃t,v=.int (0+i * 1) t) acc n->Q (.ref h'.objs.size) {s with heap:=h'.push {cls:=.type "tuple",data:=.seq acc},toks:=tk}) :
  wpAny (model prog w) A (call (.type "tuple") [.ref r]) Q E s:=
 callType_new F.called_tuple Jm (F.typeCall_tuple_1 _) (F.newCall_tuple_1 _) (fun obj=>F.args_object_init_2 obj _) F.entry_tuple_new
  (jo r n hlen) (zAB hh (zAK t u v hr) fun h' tk acc hk hacc=>⟨zn _ (dy _ rfl) rfl,h h' tk acc hk hacc⟩)
end
section
variable {X:Cx}
def nB(ta:TA):TE:=fun σ H Q=>ta σ H fun vs H1=>∃n:Nat,vs=[.int n]/\n<=1000/\∀l,H1 l=none->Q (.ref l) (upd H1 l (.tup ((List.range n).map fun i:Nat=>V.int i)))
theorem wf{a:Expr}{ta:TA}{p p2 pos pos2:Pos}(hc:X.calm=true)(hm:X.mg "tuple"=none) (hm2:X.mg "range"=none) (ha:PA X [a] ta) (hg:Gl X "tuple") (hg2:Gl X "range") (hs:starEach [a] X.env=[(false,eval a X.env)]:=by rfl)
  (hs2:starEach [.Call (.Name "range" p2) [a] [] pos2] X.env=[(false,eval (.Call (.Name "range" p2) [a] [] pos2) X.env)]:=by rfl) :
  PE X (.Call (.Name "tuple" p) [.Call (.Name "range" p2) [a] [] pos2] [] pos) (nB ta):=by
 intro pins s σ H Q I h;refine Call_ (dH I hg hm boot_tuple (PyProof.Rows.callWith_type1 ?_ hs2 rfl));rw [hs2];show wpAny _ _ (spliced ((false,eval (.Call (.Name "range" p2) [a] [] pos2) X.env)::[])) _ _ s;refine Calls.spliced_cons (Call_ (dH I hg2 hm2 boot_range (PyProof.Rows.callWith_type1 (thn (ha pos2 pins s σ H _ I h) fun us s1 hhx=>?_) hs rfl)));obtain ⟨vs,H1,I1,r1,q1⟩:=hhx;obtain ⟨n,e,hn,q⟩:=q1;subst e
 cases r1 with
 |cons r rr=>
  cases rr
  obtain ⟨t,rfl⟩:=r;refine call_range_1 (Calls.spliced_nil ?_);refine jO (n:=n) (I.ok.hd hc) hn (IsRange.new ..) fun h' tk acc hk hacc=>?_;have kp:∀b u,s1.heap.get? b=some u->h'.get? b=some u:=fun b u e=>hk b u (cy _ e);have I2:Inv X pins σ H1 {s1 with heap:=h',toks:=tk}:=I1.kept kp;refine zAA (.ref h'.objs.size) _ (I2.laid (t':=tk) (fun b u e=>cy _ e) (zq0 _) (show ObjOk X.prog X.w _ _ _ (.tup ((List.range n).map fun i:Nat=>V.int i)) from ⟨by rw [zq1,gL,sizeLine_eq];omega,zn acc.toList (vE hacc) ?_⟩)) rfl (q _ (I2.hok.fresh (zq0 _)));have e:=IsTup.new h' acc;simpa using e
theorem sk{a:Expr}{ta:TA}{p p2 pos pos2:Pos}(hc:X.calm=true)(hm:X.mg "tuple"=none) (hm2:X.mg "range"=none) (ha:XA X [a] ta) (hg:Gl X "tuple") (hg2:Gl X "range") (hs:starEach [a] X.env=[(false,eval a X.env)]:=by rfl)
  (hs2:starEach [.Call (.Name "range" p2) [a] [] pos2] X.env=[(false,eval (.Call (.Name "range" p2) [a] [] pos2) X.env)]:=by rfl) :
  XE X (.Call (.Name "tuple" p) [.Call (.Name "range" p2) [a] [] pos2] [] pos) (nB ta):=⟨wf hc hm hm2 ha.h hg hg2 hs hs2⟩
theorem zi{ta:TA}{σ:St}{H:Hp}{Q:VK}:nB ta σ H Q=ta σ H fun vs H1=>∃n:Nat,vs=[.int n]/\n<=1000/\∀l,H1 l=none->Q (.ref l) (upd H1 l (.tup ((List.range n).map fun i:Nat=>V.int i))):=rfl
end
section
variable {prog:Program} {w:World} {A:Around} {E:Value->Shared->Prop} {s:Shared} {l I S:Addr} {vs:List Value} {ln:Nat->Nat} {dv:Value} {R:Result->Shared->Prop}
end
section
variable {X:Cx}
end
end L2
end
namespace GD
section
variable {G:Nat->Nat->Option Int} {so:Nat->Nat} {U:Nat->Int} {n:Nat}
end
end GD
section
open PySem PySem.Spec PyProof.Rows
namespace L2
theorem uS:∀{xs:List V} {us:List Value},us.length=xs.length->(∀(j:Nat)(v:Value),us[j]?=some v->∃x,xs[j]?=some x/\RelV x v)->Vals xs us
 | [],[],_,_=>.nil
 | [],_::_,h,_=>by simp at h
 |_::_,[],h,_=>by simp at h
 |x::xs,u::us,h,hv=>by
  obtain ⟨y,e,r⟩:=hv 0 u rfl
  cases e
  refine .cons r (uS (by simpa using h) fun j v hj=>?_);obtain ⟨y,e,r⟩:=hv (j+1) v (by simpa using hj);exact zn y (by simpa using e) r
theorem CH{P:Program}{w:World}{k:Key}{v:Value}(h:(bi P w).is k v=true):RelV (kV k) v:=by
 cases k with
 |inl i=>exact Value.isInt_shape h
 |inr x=>exact Value.isStrOf_shape h
section
variable {X:Cx}
end
end L2
namespace L2
variable {H:Hp}
def sJ(d:Addr)(o:Obj)(kvs:List (Key×V)):It:=
 ⟨fun i H=>H d=some (.frz o (.dK kvs))/\i<kvs.length,fun i H x H'=>H'=H/\∃k v,kvs[i]?=some (k,v)/\x=kV k,fun i H=>H d=some (.frz o (.dK kvs))/\kvs.length<=i⟩
theorem xC{P:Program}{w:World}{h:Heap}{d:Addr}{o:Obj}{kvs:List (Key×V)}{es:Array DictEntry}{ep:Nat}(ok:HOk P w H h)(e:H d=some (.frz o (.dK kvs)))(ho:o.data=.dict es ep):∃vs,KV kvs vs/\h.DictAt (bi P w) d vs ep:=by
 obtain ⟨e1,z,hd,vs,rel,o',es',ep',e2,r⟩:=ok d _ e;rw [e1] at e2
 cases e2
 obtain ⟨r1,r2,r3⟩:=id r;rw [ho] at r2
 cases r2
 exact zn vs rel (zAD o es e1 r)
theorem wO{P:Program}{w:World}{K:W.Frag}{tg:Expr}(d it:Addr)(o:Obj){es:Array DictEntry}{ep:Nat}(ho:o.data=.dict es ep)(kvs:List (Key×V)):jJ P w K tg (sJ d o kvs) [it] it (fun i h=>h.IsKeyIter it d i kvs.length ep) where
 mem:=by simp
 obj:=fun i h st b hb=>by
  have e:b=it:=by simpa using hb
  subst e;obtain ⟨o,e,c,d⟩:=st;exact zn o e fun v z=>by rw [d] at z;cases z
 keep:=fun i h h' st k=>st.at fun o e=>k it Jo o e
 item:=by
  intro X hP hw hK hc i pins s σ H E I hf st hg;subst hP hw hK;obtain ⟨hg1,hi⟩:=hg;obtain ⟨vs,rel,hm⟩:=xC I.hok hg1 ho;have hl:=rel.length;obtain ⟨⟨k,v⟩,hk⟩:∃p,kvs[i]?=some p:=⟨_,zq8 hi⟩
  obtain ⟨⟨k',v'⟩,hk',e1,_⟩:=Paired.at rel hk
  cases (show k=k' from e1)
  obtain ⟨f0,f1,f2,f3,f4,f5⟩:=hf it Jo;rw [hl] at st;refine wpAny_pyNext_dict_item st hm hk' fun key h' hkey st' sb=>?_;have I1:Inv X pins σ H {s with heap:=h'}:=I.turned (t':=s.toks) (fun b o hb e=>(sb.2 b hb).trans e) f0 f1 f3 f4 f5;obtain ⟨o2,e2,c2,d2⟩:=id st';rw [<- hl] at st';exact zn key rfl (oO (s:={s with heap:=h'}) e2 c2 d2 Jm (zAS (kV k) H I1 (CH hkey) ⟨rfl,zAD k v hk rfl⟩ st' fun b hb=>(hf b hb).1))
 done:=by intro X hP hw hK hc i pins s σ H E I hf st hg;subst hP hw hK;obtain ⟨hg1,hi⟩:=hg;obtain ⟨vs,rel,hm⟩:=xC I.hok hg1 ho;have hl:=rel.length;obtain ⟨f0,f1,f2,f3,f4,f5⟩:=hf it Jo;rw [hl] at st;exact wpAny_pyNext_dict_end (I.ok.hd hc) st hm (D4 Jn) fun h' eb=>⟨rfl,I.turned (t':=s.toks) (fun b o hb e=>eb b o hb e) f0 f1 f3 f4 f5⟩
 self:=fun _ _ _ _ _ st h=>wpAny_pyIter_keyiter st h
def CD(td:TE):TI:=fun σ H R=>td σ H fun x H1=>∃a kvs,x=.ref a/\H1 a=some (.dK kvs)/\∀o,R (sJ a o kvs) (upd H1 a (.frz o (.dK kvs)))
theorem A7{X:Cx}{tg o:Expr}{td:TE}(ho:XE X o td):XI X tg o (CD td):=⟨by
 intro pins s σ H R I h;refine thn (ho.h pins s σ H _ I h) fun v s1 hhx=>?_;obtain ⟨x,H1,I1,r1,a,kvs,ex,e,q1⟩:=hhx;subst ex
 cases r1
 have okd:=I1.hok a _ e;obtain ⟨z,hd,vs,rel,od,es,ep,g1,g2⟩:=id okd;have hl:=rel.length;have hat:s1.heap.DictAt (bi X.prog X.w) a vs ep:=zAD od es g1 g2
 refine wpAny_pyIter_dict hd hat ?_;have I2:Inv X pins σ (upd H1 a (.frz od (.dK kvs))) {s1 with heap:=s1.heap,toks:=s1.toks}:=I1.write (x:=a) (e:=a) (by rw [e];exact True.intro) (.inl rfl) (fun b u _ q=>q) ⟨od,g1⟩ ⟨g1,okd.stay (fun _ _ _ q=>q) (fun b q=>by rw [aq (bN q e (fun z=>nomatch z))];exact q) fun b ys q=>by rw [aq (bN q e (fun z=>nomatch z))];exact q⟩
 refine zAV _ ([_]) _ _ _ rfl (I2.kept (t':=s1.toks) fun b o e=>cy _ e) (wO a _ od g2.2.1 kvs) ?_ (fun b hb=>?_) (q1 od)
 ·rw [hl];exact zAC _ (dy _ rfl) rfl rfl
 ·rw [zq2.mp hb];exact I2.fpOk (zq0 _) (I2.hok.fresh (zq0 _))⟩
theorem BU{td:TE}{σ:St}{R:It->Hp->Prop}:CD td σ H R=td σ H fun x H1=>∃a kvs,x=.ref a/\H1 a=some (.dK kvs)/\∀o,R (sJ a o kvs) (upd H1 a (.frz o (.dK kvs))):=rfl
theorem B8{d:Addr}{o:Obj}{kvs:List (Key×V)}{g:TG}{tb:TS}{D:dm}{σ:St}(Pv:Nat->St->Hp->Prop)(h0:Pv 0 σ H)(hl:∀i σ H,i<=kvs.length->Pv i σ H->H d=some (.frz o (.dK kvs)))
 (hs:∀(i:Nat)k v σ H,kvs[i]?=some (k,v)->Pv i σ H->g (kV k) σ H fun σ2 H2=>tb {D with nx:=Pv (i+1),ct:=Pv (i+1),bk:=D.nx} σ2 H2) (hd:∀σ H,Pv kvs.length σ H->D.nx σ H):mw (sJ d o kvs) g tb D σ H:=by
 refine zn (fun i m σ H=>m=kvs.length-i/\i<=kvs.length/\Pv i σ H) (zAC kvs.length Jo (ce _) h0) ?_;rintro i m σ H ⟨rfl,hi,p⟩;have q:=hl i σ H hi p
 by_cases hlt:i<kvs.length
 ·refine .inr ⟨⟨q,hlt⟩,zn (Pv (i+1)) (fun σ' H' p'=>zAF (kvs.length-(i+1)) Jn rfl hlt p') fun x H' y=>?_⟩;obtain ⟨eH,k,v,hk,ex⟩:=y;subst eH ex;exact hs i k v σ H' hk p
 ·obtain rfl:i=kvs.length:=by omega
  exact .inl ⟨⟨q,zq0 _⟩,hd σ H p⟩
end L2
namespace L2
def Itz(K:W.Frag)(a b:Addr):It:=
  ⟨fun i H=>∃xs ys x y,SqL K H a xs/\SqL K H b ys/\xs[i]?=some x/\ys[i]?=some y,
   fun i H z H'=>∃p x y,z=.ref p/\H p=none/\H'=upd H p (.tup [x,y])/\(∀xs,SqL K H a xs->xs[i]?=some x)/\∀ys,SqL K H b ys->ys[i]?=some y,
   fun i H=>∃xs ys,SqL K H a xs/\SqL K H b ys/\(xs.length<=i\/ys.length<=i)⟩
def F7(z ti to i1 i2 a b:Addr)(i:Nat)(h:Heap):Prop:=IsZip h z ti to .none/\IsPair h ti (.ref i1) (.ref i2)/\(∃u v,IsPair h to u v)/\h.IsListIter i1 a i/\h.IsListIter i2 b i
theorem zX{P:Program}{w:World}{K:W.Frag}{elts:List Expr}{k0:Nat}{pos0:Pos}{z ti to i1 i2 a b:Addr}(D:ZipApart z ti to i1 i2 a b):
  jJ P w K (.Tuple elts k0 pos0) (Itz K a b) [z,ti,to,i1,i2] z (F7 z ti to i1 i2 a b) where
 mem:=by simp
 obj:=fun i h ⟨h1,h2,⟨u,v,h3⟩,h4,h5⟩ c hc=>by
  simp only [List.mem_cons,List.not_mem_nil,or_false] at hc;rcases hc with rfl | rfl | rfl | rfl | rfl
  ·exact zn _ h1 fun v e=>by cases (show Data.fields _=Data.cell v from e)
  ·exact zn _ h2 fun v e=>by cases (show Data.seq _ _=Data.cell v from e)
  ·exact zn _ h3 fun v e=>by cases (show Data.seq _ _=Data.cell v from e)
  ·obtain ⟨o,q,_,d⟩:=h4;exact zn o q fun v e=>by rw [d] at e;cases e
  ·obtain ⟨o,q,_,d⟩:=h5;exact zn o q fun v e=>by rw [d] at e;cases e
 keep:=fun i h h' ⟨h1,h2,⟨u,v,h3⟩,h4,h5⟩ k=>zAJ (k z Jo _ h1) (k ti Jo _ h2) (zAM u v (k to Jo _ h3)) (h4.at fun o q=>k i1 Jo o q) (h5.at fun o q=>k i2 Jo o q)
 item:=by
  intro X hP hw hK hc i pins s σ H E I hf st hg;subst hP hw hK;obtain ⟨xs,ys,x,y,hqx,hqy,hx,hy⟩:=hg;obtain ⟨its,rv,p,hzz⟩:=I.list hqx;obtain ⟨ots,rw',p',hzz'⟩:=I.list hqy;obtain ⟨u,hu,ru⟩:=rv.get hx;obtain ⟨v,hv,rv'⟩:=rw'.get hy;obtain ⟨hz,hti,⟨oa,ob,hto⟩,hi1,hi2⟩:=st;have hf0:∀c∈[z,ti,to,i1,i2],H c=none:=fun c hc=>(hf c hc).1;refine wpAny_pyNext_zip_item D hz hti hto hi1 hi2 p.isList p'.isList (x:=u) (y:=v) (by simpa using hu) (by simpa using hv) fun h1 z1 t1 a1 a2 t2 hsz hk=>?_;refine zn _ rfl (wpAny_letOwnedTupleGo_zip z1 fun h2 z2 hs2=>?_);replace hs2:Heap.SameBut z h1 h2:=hs2;have zlt:z<s.heap.objs.size:=zq7 hz;have hk2:∀c o,c≠z->c≠to->c≠i1->c≠i2->s.heap.get? c=some o->h2.get? c=some o:=fun c o c1 c2 c3 c4 q=>(hs2.2 c c1).trans (hk c o c1 c2 c3 c4 q);have hT2:IsPair h2 s.heap.objs.size u v:=(hs2.2 _ (lh zlt)).trans t2;have hn:H s.heap.objs.size=none:=I.hok.fresh (zq0 _);have nF:∀c o,H c=some o->c≠z/\c≠to/\c≠i1/\c≠i2:=fun c o q=>zAG (fun e=>(by rw [e,hf0 z Jo] at q;cases q)) (fun e=>(by rw [e,hf0 to Jo] at q;cases q)) (fun e=>(by rw [e,hf0 i1 Jo] at q;cases q)) fun e=>(by rw [e,hf0 i2 Jo] at q;cases q)
  have kp:∀c o o',H c=some o->s.heap.get? c=some o'->h2.get? c=some o':=fun c o o' q r=>let ⟨n1,n2,n3,n4⟩:=nF c o q;hk2 c o' n1 n2 n3 n4 r;have ok2:HOk X.prog X.w H h2:=fun c o q=>(I.hok c o q).stay (fun d v' hd r=>by
   rcases hd with e | e
   ·rw [e] at r ⊢;exact kp c o v' q r
   ·exact kp d _ v' e r) (fun _ r=>r) fun _ _ r=>r
  have ok3:HOk X.prog X.w (upd H s.heap.objs.size (.tup [x,y])) h2:=fun c o q=>by
   by_cases hb:c=s.heap.objs.size
   ·subst hb;rw [aj] at q
    cases q
    exact ⟨by show 2<=sizeLine;decide,zn ([u,v]) (.cons ru (.cons rv' .nil)) (zAC _ hT2 rfl ⟨_,rfl⟩)⟩
   ·rw [aq hb] at q;exact (ok2 c o q).stay (fun d v' _ r=>r) (fun d r=>by rw [aq (ao r hn)];exact r) fun d zs r=>by rw [aq (ao r hn)];exact r
  have nlt:∀{c:Addr} {o:Obj},s.heap.get? c=some o->c≠s.heap.objs.size:=fun q=>cD (zq7 q);have lg:∀c,c∉[z,ti,to,i1,i2]->c≠z/\c≠to/\c≠i1/\c≠i2:=fun c hc=>by simp only [List.mem_cons,List.not_mem_nil,or_false,not_or] at hc;exact zAG hc.1 hc.2.2.1 hc.2.2.2.1 hc.2.2.2.2
  have I2:Inv X pins σ (upd H s.heap.objs.size (.tup [x,y])) {s with heap:=h2,toks:=s.toks}:=
   I.step (g':=s.gens) (d':=s.drawn) (ch:=[z,ti,to,i1,i2]) (fun c hc=>let ⟨_,f1,_,f3,f4,f5⟩:=hf c hc;(zAG f3 f1 f4 f5))
    (fun c o _ _ hc q _=>let ⟨n1,n2,n3,n4⟩:=lg c hc;hk2 c o n1 n2 n3 n4 q)
    (fun c o _ _ hc q _=>let ⟨n1,n2,n3,n4⟩:=lg c hc;⟨o.slots,hk2 c o n1 n2 n3 n4 q⟩)
    (fun c o _ q n=>by rw [aq (nlt q)];exact n)
    (fun c o hc q=>let ⟨n1,n2,n3,n4⟩:=lg c hc;⟨o,hk2 c o n1 n2 n3 n4 q⟩)
    (fun c zs q=>by rw [aq (ao q hn)];exact q) (fun c o v q=>by rw [aq (ao q hn)];exact q) (fun c ps q=>⟨#[],by rw [aq (ao q hn),q];simp⟩)
    (fun m ⟨o,es,ep,hm,r⟩=>zAI o es ep (hk2 _ o (hf z Jo).2.1.symm (hf to Jo).2.1.symm (hf i1 Jo).2.1.symm (hf i2 Jo).2.1.symm hm) r) ok3 I.bare
  refine ⟨.ref s.heap.objs.size,_,I2,rfl,zAL _ x y rfl hn rfl (fun zs hz'=>by rw [I.list_inj hz' hqx];exact hx) fun zs hz'=>by rw [I.list_inj hz' hqy];exact hy,
   (zAJ z2 ((hs2.2 ti D.TIz).trans (hk ti _ D.TIz D.TITO D.TIi1 D.TIi2 hti)) (zAM u v ((hs2.2 to D.TOz).trans t1)) (a1.at fun o q=>(hs2.2 i1 D.i1z).trans q) (a2.at fun o q=>(hs2.2 i2 D.i2z).trans q)),fun c hc=>?_⟩
  have hcl:c≠s.heap.objs.size:=by
   simp only [List.mem_cons,List.not_mem_nil,or_false] at hc;rcases hc with e | e | e | e | e
   ·rw [e];exact nlt hz
   ·rw [e];exact nlt hti
   ·rw [e];exact nlt hto
   ·rw [e];obtain ⟨o,q,_⟩:=hi1;exact nlt q
   ·rw [e];obtain ⟨o,q,_⟩:=hi2;exact nlt q
  rw [aq hcl];exact hf0 c hc
 done:=by
  intro X hP hw hK hc i pins s σ H E I hf st hg;subst hP hw hK;obtain ⟨xs,ys,hqx,hqy,hend⟩:=hg;obtain ⟨its,rv,p,_⟩:=I.list hqx;obtain ⟨ots,rw',p',_⟩:=I.list hqy;have hl1:=rv.length;have hl2:=rw'.length;obtain ⟨hz,hti,⟨oa,ob,hto⟩,hi1,hi2⟩:=st;have hf0:∀c∈[z,ti,to,i1,i2],H c=none:=fun c hc=>(hf c hc).1;refine wpAny_pyNext_zip_end (I.ok.hd hc) D hz hti hto hi1 hi2 p.isList p'.isList (hend.imp (fun h=>by simp;omega) fun h=>by simp;omega) fun h' hk=>⟨rfl,?_⟩
  have lg:∀c,c∉[z,ti,to,i1,i2]->c≠z/\c≠to/\c≠i1/\c≠i2:=fun c hc=>by simp only [List.mem_cons,List.not_mem_nil,or_false,not_or] at hc;exact zAG hc.1 hc.2.2.1 hc.2.2.2.1 hc.2.2.2.2
  have kp:∀c o o',H c=some o->s.heap.get? c=some o'->h'.get? c=some o':=fun c o o' q r=>hk c o' (fun e=>by rw [e,hf0 z Jo] at q;cases q) (fun e=>by rw [e,hf0 to Jo] at q;cases q) (fun e=>by rw [e,hf0 i1 Jo] at q;cases q) (fun e=>by rw [e,hf0 i2 Jo] at q;cases q) r;exact I.step (t':=s.toks) (g':=s.gens) (d':=s.drawn) (ch:=[z,ti,to,i1,i2]) (fun c hc=>let ⟨_,f1,_,f3,f4,f5⟩:=hf c hc;(zAG f3 f1 f4 f5))
    (fun c o _ _ hc q _=>let ⟨n1,n2,n3,n4⟩:=lg c hc;hk c o n1 n2 n3 n4 q)
    (fun c o _ _ hc q _=>let ⟨n1,n2,n3,n4⟩:=lg c hc;⟨o.slots,hk c o n1 n2 n3 n4 q⟩)
    (fun _ _ _ _ n=>n) (fun c o hc q=>let ⟨n1,n2,n3,n4⟩:=lg c hc;⟨o,hk c o n1 n2 n3 n4 q⟩) (fun _ _ q=>q) (fun _ _ _ q=>q) (fun c ps q=>⟨#[],by rw [q];simp⟩)
    (fun m ⟨o,es,ep,hm,r⟩=>zAI o es ep (hk _ o (hf z Jo).2.1.symm (hf to Jo).2.1.symm (hf i1 Jo).2.1.symm (hf i2 Jo).2.1.symm hm) r)
    (fun c o q=>(I.hok c o q).stay (fun d v' hd r=>by
     rcases hd with e | e
     ·rw [e] at r ⊢;exact kp c o v' q r
     ·exact kp d _ v' e r) (fun _ r=>r) fun _ _ r=>r) I.bare
 self:=fun _ _ _ _ _ ⟨hz,_⟩ h=>wpAny_pyIter_zip hz h
def Du(K:W.Frag)(ta:TA):TI:=fun σ H R=>ta σ H fun vs H1=>∃a b,vs=[.ref a,.ref b]/\(∃xs,SqL K H1 a xs)/\(∃ys,SqL K H1 b ys)/\R (Itz K a b) H1
theorem DX{X:Cx}{a b:Expr}{ta:TA}{p pos pos0:Pos}{elts:List Expr}{k0:Nat}(hm:X.mg "zip"=none) (ha:PA X [a,b] ta) (hg:Gl X "zip":=by rfl) (hs:starEach [a,b] X.env=(false,eval a X.env)::starEach [b] X.env:=by rfl) (hs2:(backTo pos (starEach [b] X.env)).any (·.1)=false:=by rfl) :
  PI X (.Tuple elts k0 pos0) (.Call (.Name "zip" p) [a,b] [] pos) (Du X.K ta):=by
 intro pins s σ H R I h;refine Call_ (dH I hg hm boot_zip (PyProof.Rows.callWith_type1 (thn (ha pos pins s σ H _ I h) fun us s1 hhx=>?_) hs hs2));obtain ⟨vs,H1,I1,r1,q1⟩:=hhx;obtain ⟨l,m,e,⟨xs,hx⟩,⟨ys,hy⟩,q⟩:=q1;subst e;obtain ⟨u,us',rfl,ru,r2⟩:∃u us',us=u::us'/\RelV (.ref l) u/\Vals [.ref m] us':=by cases r1 with | cons r rr=>exact zAA _ _ rfl r rr
 obtain ⟨v,rfl,rv⟩:=gU r2
 cases ru
 cases rv
 obtain ⟨its,_,p1,_⟩:=I1.list hx;obtain ⟨ots,_,p2,_⟩:=I1.list hy;have l1:l<s1.heap.objs.size:=by obtain ⟨o,ho,_⟩:=p1.isList;exact zq7 ho
 have l2:m<s1.heap.objs.size:=by obtain ⟨o,ho,_⟩:=p2.isList;exact zq7 ho
 refine call_zip_2 p1.isList p2.isList fun h' z1 z2 z3 z4 z5 _ hk=>?_;refine wpAny_pyIter_zip z1 ?_;have I2:Inv X pins σ H1 {s1 with heap:=h'}:=I1.kept (t':=s1.toks) hk;refine zAV _ _ _ _ H1 rfl I2 (zX (zipApart_new l1 l2)) (zAJ z1 z2 (zAM _ _ z3) z4 z5) (fun c hc=>?_) q;have hle:s1.heap.objs.size<=c:=by
  simp only [List.mem_cons,List.not_mem_nil,or_false] at hc;rcases hc with rfl | rfl | rfl | rfl | rfl
  ·exact lA _ _
  ·exact lA _ _
  ·exact lA _ _
  ·exact zq0 _
  ·exact lA _ _
 exact I1.fpOk hle (I1.hok.fresh hle)
theorem Co{X:Cx}{a b:Expr}{ta:TA}{p pos pos0:Pos}{elts:List Expr}{k0:Nat}(hm:X.mg "zip"=none) (ha:XA X [a,b] ta) (hg:Gl X "zip":=by rfl) (hs:starEach [a,b] X.env=(false,eval a X.env)::starEach [b] X.env:=by rfl) (hs2:(backTo pos (starEach [b] X.env)).any (·.1)=false:=by rfl) :
  XI X (.Tuple elts k0 pos0) (.Call (.Name "zip" p) [a,b] [] pos) (Du X.K ta):=⟨DX hm ha.h hg hs hs2⟩
theorem Es{K:W.Frag}{ta:TA}{σ:St}{H:Hp}{R:It->Hp->Prop}:Du K ta σ H R=ta σ H fun vs H1=>∃a b,vs=[.ref a,.ref b]/\(∃xs,SqL K H1 a xs)/\(∃ys,SqL K H1 b ys)/\R (Itz K a b) H1:=rfl
theorem Dn{K:W.Frag}{a b:Addr}{xs ys:List V}{g:TG}{tb:TS}{D:dm}{σ:St}{H:Hp}(hlen:xs.length=ys.length)(Pv:Nat->St->Hp->Prop)(h0:Pv 0 σ H)(hl:∀i σ H,i<=xs.length->Pv i σ H->SqL K H a xs/\SqL K H b ys)
  (hs:∀(i:Nat)x y σ H p,xs[i]?=some x->ys[i]?=some y->H p=none->Pv i σ H->g (.ref p) σ (upd H p (.tup [x,y])) fun σ2 H2=>tb {D with nx:=Pv (i+1),ct:=Pv (i+1),bk:=D.nx} σ2 H2) (hd:∀σ H,Pv xs.length σ H->D.nx σ H):mw (Itz K a b) g tb D σ H:=by
 refine zn (fun i m σ H=>m=xs.length-i/\i<=xs.length/\Pv i σ H) (zAC xs.length Jo (ce _) h0) ?_;rintro i m σ H ⟨rfl,hi,p⟩;obtain ⟨q1,q2⟩:=hl i σ H hi p
 by_cases hlt:i<xs.length
 ·refine .inr ⟨zAR xs ys _ _ q1 q2 (zq8 hlt) (zq8 Jn),zn (Pv (i+1)) (fun σ' H' p'=>zAF (xs.length-(i+1)) Jn rfl hlt p') fun x H' y=>?_⟩;obtain ⟨pp,u,v,ex,hn,eH,y1,y2⟩:=y;subst ex eH;exact hs i u v σ H pp (y1 xs q1) (y2 ys q2) hn p
 ·obtain rfl:i=xs.length:=by omega
  exact .inl ⟨zAA xs ys q1 q2 (.inl (zq0 _)),hd σ H p⟩
end L2
namespace L2
def lX(l:List Str)(x:Str):List Str:=if x∈l then l else l++[x]
def dM(ns:List Str):List Str:=ns.foldl lX []
theorem rD(ns:List Str)(x:Str):dM (ns++[x])=lX (dM ns) x:=by unfold dM;rw [sF];rfl
theorem vZ{l:List Str}{x y:Str}:y∈lX l x↔y∈l\/y=x:=by
 unfold lX
 split
 ·next h=>exact ⟨.inl,fun z=>z.elim id fun e=>by rw [e];exact h⟩
 ·rw [zq15,zq2]
theorem w5(ns:List Str):(∀y,y∈dM ns↔y∈ns)/\(dM ns).length<=ns.length/\((dM ns).length=ns.length↔ns.Nodup):=by
 rw [<- Aw ns];generalize ns.reverse=ms
 induction ms with
 |nil=>exact zAB (fun y=>Iff.rfl) (zq0 _) ⟨fun _=>Cv,fun _=>rfl⟩
 |cons x m ih=>
  rw [Ao];generalize m.reverse=l at ih ⊢;obtain ⟨h1,h2,h3⟩:=ih;rw [rD,zq3,cG];refine zAB (fun y=>by rw [vZ,h1,zq15,zq2]) ?_ ?_
  ·unfold lX;split
   ·omega
   ·rw [zq3,cG];omega
  ·rw [zq63];unfold lX
   split
   ·next h=>refine ⟨fun e=>absurd e Jn,fun ⟨_,_,z⟩=>absurd rfl (z x ((h1 x).mp h) x (zq2.mpr rfl))⟩
   ·next h=>rw [zq3,cG];refine ⟨fun e=>zAB (h3.mp Jn) Jo fun a ha b hb e2=>h ?_,fun ⟨z,_,_⟩=>by rw [h3.mpr z]⟩;rw [zq2.mp hb] at e2;rw [<- e2];exact (h1 a).mpr ha
section
variable {prog:Program} {w:World} {A:Around} {R:Result->Shared->Prop} {it:Addr} {fp wr:List Addr} {G:Array GenState->Array GenState->Prop} {n:Nat} {P:Nat->Value->Prop} {St:Nat->Shared->Prop}
end
section
variable {prog:Program} {w:World} {A:Around} {E:Value->Shared->Prop} {s:Shared}
end
def uq(p:Addr)(n:Nat):HO:=.ext fun h=>n<scanBound/\∃o es ep t,h.get? p=some o/\o.ExactSet/\o.data=.set es ep t/\t.fits es.size=true/\es.size=n
variable {X:Cx}
def FF(K:W.Frag):List V->Hp->VK->Prop:=fun xs H Q=>∃(a:Addr)(ns:List Str),xs=[.ref a]/\SqL K H a (ns.map V.str)/\ns.length<64/\∀p:Addr,H p=none->Q (.ref p) (upd H p (uq p (dM ns).length))
theorem EN{K:W.Frag}{a:Addr}{H:Hp}{Q:VK}:FF K [.ref a] H Q=∃ns:List Str,SqL K H a (ns.map V.str)/\ns.length<64/\∀p:Addr,H p=none->Q (.ref p) (upd H p (uq p (dM ns).length)):=propext ⟨by rintro ⟨_,ns,e,q⟩;cases e;exact ⟨ns,q⟩,by rintro ⟨ns,q⟩;exact zAD a ns rfl q⟩
def FC:List V->Hp->VK->Prop:=fun xs H Q=>∃(p:Addr)(n:Nat),xs=[.ref p]/\H p=some (uq p n)/\Q (.int n) H
theorem EF{p:Addr}{H:Hp}{Q:VK}:FC [.ref p] H Q=∃n:Nat,H p=some (uq p n)/\Q (.int n) H:=propext ⟨by rintro ⟨_,n,e,q⟩;cases e;exact ⟨n,q⟩,by rintro ⟨n,q⟩;exact zAD p n rfl q⟩
end L2
namespace L2
section
variable {X:Cx}
def pJ:List V->Hp->VK->Prop:=fun xs H Q=>∃(a:Addr)(kvs:List (Key×V)) (ns:List Str),xs=[.ref a]/\H a=some (.dK kvs)/\kvs.map (·.1)=ns.map Sum.inr/\ns.length<64/\∀l:Addr,H l=none->Q (.ref l) (upd H l (.lst ((FX.srt ns).map V.str)))
theorem ib(hc:X.calm=true):eA X (.builtin "sorted") pJ:=by
 intro pins s σ H xs us Q I r h;obtain ⟨a,kvs,ns,rfl,e,hkn,h64,q⟩:=h;obtain ⟨u,rfl,ru⟩:=gU r
 cases ru
 obtain ⟨z,hd,ws,rel,dd⟩:=CA I.hok e;obtain ⟨ep,hat⟩:=dd.dictAt;have hl:=rel.length;have hlk:kvs.length=ns.length:=by have:=congrArg List.length hkn;simpa using this
 refine Calls.call_function_entry kind_sorted plain_sorted entry_sorted (args_sorted1 (.ref a)) ?_;unfold Builtin.«sorted»;refine wpAny_bind (m:=checkCount "sorted" 1 1 _) (wpAny_pure ?_);refine wpAny_bind (W.kdu_collect (W.kdl_dict (knd:=bi X.prog X.w) (kvs:=ws) (ep:=ep) hd) (I.ok.hd hc) hat (by rw [<- hl];exact z) fun h' tk acc hk hacc=>?_);have hal:acc.toList.length=ns.length:=by rw [Ah,hacc.1];omega
 have hv:Vals (ns.map V.str) acc.toList:=by
  refine uS (by rw [zq1];exact hal) fun j v hj=>?_;obtain ⟨k,x,h1,h2⟩:=hacc.2 j v (by rw [<- Aj];exact hj);have hj':=(zq10.mp h1).1;obtain ⟨p,hp⟩:∃p,kvs[j]?=some p:=⟨_,zq8 Jn⟩
  obtain ⟨q2,hq2,e1,_⟩:=Paired.at rel hp;rw [h1] at hq2
  cases hq2
  have e2:(kvs.map (·.1))[j]?=some p.1:=by rw [cf,hp];rfl
  rw [hkn,cf] at e2;obtain ⟨n,hn,e3⟩:=zq27.mp e2;refine zn (.str n) (by rw [cf,hn];rfl) ?_;have z3:=CH h2;rw [show k=Sum.inr n from e1.symm.trans e3.symm] at z3;exact z3
 have hS:=j4 hv;refine wpAny_bind (wpAny_newList ?_);have hoL:(h'.push (seqObj "list" acc.toList.toArray 0)).get? h'.objs.size=some (seqObj "list" acc.toList.toArray 0):=dy _ rfl;refine wpAny_bind (wpAny_holding (wpAny_call_entry slot_list_sort (zn _ hoL rfl) entry_list_sort (list_sort_treeK strKind_oneLt hoL hS.keysOf (fun v₁ v₂ fQ e=>keyKind_strs (by rw [<- e];exact hS)) Jn fun st' a1 a2=>zn _ rfl ?_) (args_list_sort _)));obtain ⟨ss',h1,h2,h3⟩:=sorted_out_str hS a1 a2;have eq:=FX.rT h2 (FX.kl h3);subst eq;refine wpAny_pure (zn _ rfl ?_);obtain ⟨ep',he⟩:=sortedHeap_at (out:=(arrOf st').map (·.2)) hoL;have I1:Inv X pins σ H {s with heap:=h',toks:=tk}:=I.kept (t':=tk) hk;have hk2:∀b o,h'.get? b=some o->(sortedHeap (h'.push (seqObj "list" acc.toList.toArray 0)) h'.objs.size acc.toList ((arrOf st').map (·.2))).get? b=some o:=fun b o hb=>by have hlt:=zq7 hb;rw [sortedHeap_old (cD hlt) (by rw [size_push'];exact Nat.lt_succ_of_lt hlt),Heap.get?_push_ne _ _ _ (cD hlt)];exact hb
 refine zAA (.ref h'.objs.size) _ (I1.laid (t':=tk) hk2 (zq0 _) (show ObjOk X.prog X.w _ (sortedHeap (h'.push (seqObj "list" acc.toList.toArray 0)) h'.objs.size acc.toList ((arrOf st').map (·.2))) _ (.lst ((FX.srt ns).map V.str)) from ⟨?_,zAD ((arrOf st').map (·.2)).toList ep' (mi h1) ?_⟩)) rfl (q _ (I1.hok.fresh (zq0 _)))
 ·rw [zq1,h2.length_eq,sizeLine_eq];omega
 ·rw [Array.toArray_toList];exact he
theorem ww{a:Addr}{H:Hp}{Q:VK}:pJ [.ref a] H Q=∃(kvs:List (Key×V)) (ns:List Str),H a=some (.dK kvs)/\kvs.map (·.1)=ns.map Sum.inr/\ns.length<64/\∀l:Addr,H l=none->Q (.ref l) (upd H l (.lst ((FX.srt ns).map V.str))):=propext ⟨by rintro ⟨_,kvs,ns,e,q⟩;cases e;exact zAM kvs ns q,by rintro ⟨kvs,ns,q⟩;exact zAI a kvs ns rfl q⟩
end
end L2
end
namespace GO
open PySem L2 FB FS FG FO FR FZ GA PyProof.Rows
variable {b b0:Bx} {d:Deed}
def atB(w:Int)(d:Deed)(b0 b:Bx):Bx:=match d with
 | .tell _=>b
 | .copy n _=>cv b (.inr n) (.int (cY b0 w d))
 | .op _ n _ _=>cv b (.inr n) (.int (cY b0 w d))
def beat(w:Int)(b0:Bx):List Deed->BT->BT
 | [],s=>s
 |d::r,s=>beat w b0 r (atB w d b0 s.1,doT w d b0 s.2)
def cB(F:List Blk)(w:Int):Nat->Nat->BT->BT×Bool
 |0,_,s=>(s,false)
 |m+1,i,s=>match F[i]? with
  |none=>(s,false)
  |some b=>match nxt s.1 b.ed with
   |none=>(beat w s.1 b.ds s,true)
   |some j=>cB F w m j (beat w s.1 b.ds s)
def tR(F:List Blk)(w:Int)(m:Nat)(b:Blk)(s:BT):BT×Bool:=match nxt s.1 b.ed with
 |none=>(beat w s.1 b.ds s,true)
 |some j=>cB F w m j (beat w s.1 b.ds s)
theorem fj{F:List Blk}{w:Int}{m i:Nat}{s:BT}{b:Blk}(h:F[i]?=some b):cB F w (m+1) i s=tR F w m b s:=by rw [cB,h];rfl
theorem BxG.atB{ns:List Str}{w:Int}(h0:BxG ns w b0)(h:BxG ns w b)(hd:Deed.good ns w d)(hw:1<=w):BxG ns w (atB w d b0 b):=by
 have l:=jU h0 hd hw
 cases d with
 |tell a=>exact h
 |copy n a=>exact h.put hd.1 l.1 l.2
 |op f n x y=>exact h.put hd.2.1 l.1 l.2
theorem eS{w:Int}{b0:Bx}:∀{ds:List Deed} {j:Nat} {d:Deed} {s:BT},ds[j]?=some d->beat w b0 (ds.take (j+1)) s=(GO.atB w d b0 (beat w b0 (ds.take j) s).1,doT w d b0 (beat w b0 (ds.take j) s).2)
 | [],j,d,s,h=>by simp at h
 |x::ds,0,d,s,h=>by
  simp at h;subst h;rfl
 |x::ds,j+1,d,s,h=>by rw [List.take_succ_cons,List.take_succ_cons,beat,beat];exact eS (by simpa using h)
theorem eQ{w:Int}{b0:Bx}:∀{ds:List Deed} {s:BT},(beat w b0 ds s).2.length<=s.2.length+ds.length
 | [],s=>zq0 _
 |d::r,s=>by rw [beat];have h:=eQ (w:=w) (b0:=b0) (ds:=r) (s:=(GO.atB w d b0 s.1,doT w d b0 s.2));have h2:=mH (w:=w) (d:=d) (b:=b0) (t:=s.2);rw [dk];dsimp only at h;omega
theorem fV{n:Str}{x u:V}(h:bI b (.inr n)=some u):(cv b (.inr n) x).map (·.1)=b.map (·.1):=by
 have hv:=cI (.inr n) b;rw [h] at hv;unfold cv;rw [if_pos (by rw [hv];rfl),fM];refine v7 fun kv _=>?_;show (if _ then _ else kv).1=kv.1
 split<;>rfl
theorem xP{ns:List Str}{w:Int}(h:BxG ns w b)(hd:Deed.good ns w d):(GO.atB w d b0 b).map (·.1)=b.map (·.1):=by
 cases d with
 |tell a=>rfl
 |copy n a=>exact fV (h.val hd.1)
 |op f n x y=>exact fV (h.val hd.2.1)
theorem oT{ns:List Str}{w:Int}(h:BxG ns w b)(hd:Deed.good ns w d):(doB w d b).map (·.1)=b.map (·.1):=by
 cases d with
 |tell a=>rfl
 |copy n a=>exact fV (h.val hd.1)
 |op f n x y=>exact fV (h.val hd.2.1)
theorem BxG.beat{ns:List Str}{w:Int}(h0:BxG ns w b0)(hw:1<=w):∀{ds:List Deed} {s:BT},BxG ns w s.1->(∀d∈ds,Deed.good ns w d)->BxG ns w (GO.beat w b0 ds s).1/\(GO.beat w b0 ds s).1.map (·.1)=s.1.map (·.1)
 | [],s,h,_=>⟨h,rfl⟩
 |d::r,s,h,hd=>by rw [GO.beat];have hg:=hd d (eL ..);obtain ⟨h1,h2⟩:=BxG.beat h0 hw (s:=(GO.atB w d b0 s.1,doT w d b0 s.2)) (BxG.atB h0 h hg hw) fun x hx=>hd x (zq9 _ hx);exact ⟨h1,h2.trans (xP h hg)⟩
theorem oK{ins:List Str}{ws:Bx}(ns:List Str):∃ks:List Str,(aK ins ws ns).map (·.1)=ks.map Sum.inr/\ks.length<=ns.length:=by
 suffices h:∀m (ns:List Str),ns.length=m->∃ks:List Str,(aK ins ws ns).map (·.1)=ks.map Sum.inr/\ks.length<=ns.length from h _ ns rfl
 intro m
 induction m with
 |zero=>
  intro ns h;have:ns=[]:=zq64.mp h;subst this;exact zn ([]) rfl (zq0 _)
 |succ m ih=>
  intro ns h;obtain ⟨l,x,rfl⟩:∃l x,ns=l++[x]:=⟨ns.dropLast,ns.getLast (by intro z;rw [z] at h;simp at h),(v8 _).symm⟩
  obtain ⟨ks,e,hl⟩:=ih l (by simpa using h);rw [eD]
  cases hv:bI (aK ins ws l) (.inr x) with
  |some u=>exact zn ks (by rw [fV hv];exact e) (by rw [zq3];omega)
  |none=>refine zn (ks++[x]) ?_ (by rw [zq3,zq3];simp;omega);have hv2:=cI (.inr x) (aK ins ws l);rw [hv] at hv2;unfold cv;rw [if_neg (by rw [hv2];simp),cS,e,cS];rfl
end GO
local macro_rules | `(tactic| simp_arith [$ts,*] $l:location)=>`(tactic| simp only [L2.J9,L2.IG,L2.Ja,L2.IH,L2.Jb,L2.II,L2.Jc,L2.IJ,L2.Jd,L2.IK,L2.Je,L2.IL,L2.Jf,L2.IM,L2.Jg,L2.IN,L2.Jh,L2.IO,L2.Ji,L2.IQ,L2.Ir,L2.G0,L2.r_c,L2.IU,L2.IY,L2.J8,L2.y_I,L2.y_U,L2.FT,L2.FU,L2.CN,L2.Ga,L2.Ej,L2.BP,L2.EQ,L2.r_B,L2.FJ,L2.IV,L2.Gc,L2.E5,L2.Gd,L2.EK,L2.IR,L2.EJ,L2.ze,L2.Ee,L2.Ge,L2.CM,L2.FM,L2.ID,L2.Gb,L2.Ea,L2.E9,L2.Gi,L2.G8,L2.Eb,L2.IW,L2.yY,L2.EL,L2.El,L2.BR,L2.G4,L2.IT,L2.IS,L2.Ey,L2.Ez,L2.EA,L2.EB,L2.EC,L2.ED,L2.EE,L2.FY,L2.BS,L2.BV,L2.Er,L2.BW,L2.BX,L2.Ef,L2.Eg,L2.FV,L2.IF,L2.FN,L2.G6,L2.G5,L2.G7,L2.FQ,L2.Gg,L2.yN,L2.Eh,L2.Ew,L2.En,true_and,and_true,forall_const,Int.reduceLT,L2.BJ,L2.wu,L2.Gj,L2.Gh,L2.G3,L2.yZ,L2.Dj,L2.F2,L2.F9,L2.E7,L2.E8,List.map_cons,List.map_nil,List.getElem?_cons_zero,List.getElem?_cons_succ,Option.join_some,L2.IE,L2.Ex,L2.C3,L2.BN,L2.Ec,L2.Ei,L2.Em,List.set_cons_zero,List.set_cons_succ,L2.yW,L2.EO,L2.Eo,L2.EI,L2.EH,L2.Ep,L2.wt,L2.BM,L2.Df,L2.FK,L2.BL,L2.yR,L2.BO,L2.wq,L2.BU,L2.Es,L2.BY,L2.EF,L2.EM,L2.EN,L2.zg,L2.ww,L2.zi,$ts,*] $l:location)
local macro_rules | `(tactic| simp_arith [$ts,*])=>`(tactic| simp_arith [$ts,*] at ⊢)
local macro_rules | `(tactic| rwa [$[$ts:term],*]) => `(tactic| simp_arith [$[$ts:term],*])
local macro_rules | `(∅) => `(by first | exact ⟨rfl,rfl,rfl,Jk,rfl,Jk,Jk⟩ | (intro vs H Q E h; first | (obtain ⟨h,_⟩ := h; cases h; rfl) | (obtain ⟨_,h,_⟩ := h; cases h; rfl) | (obtain ⟨_,_,h,_⟩ := h; cases h; rfl) | (obtain ⟨_,_,_,h,_⟩ := h; cases h; rfl) | (obtain ⟨_,_,_,_,h,_⟩ := h; cases h; rfl) | (obtain ⟨_,_,_,_,_,h,_⟩ := h; cases h; rfl) | (obtain ⟨_,_,_,_,_,_,h,_⟩ := h; cases h; rfl) | (obtain ⟨_,_,_,_,_,_,_,h,_⟩ := h; cases h; rfl) | (obtain ⟨_,_,_,_,_,_,_,_,h,_⟩ := h; cases h; rfl)))
namespace K53
open PySem L2 PyProof.Rows FD FB FS FO FR FG
def top(i:Nat):Stmt:=PySem.Challenge.pw_deedloom_k53_tables_for_all_words.main.body.getD i (.Pass ⟨0,0,0,0⟩)
abbrev s_0:Stmt:=top 2
theorem sc_0:aE ["program","parting","first"] ["program"] (az s_0):=∅
abbrev s_1:Stmt:=bK (top 3) 0
theorem IZ:aE ["self"] ["self"] (az s_1):=∅
abbrev s_2:Stmt:=bK (top 3) 1
theorem J0:aE ["self"] ["self"] (az s_2):=∅
abbrev s_3:Stmt:=bK (top 3) 2
theorem J3:aE ["self","block"] ["self","block"] (az s_3):=∅
abbrev s_4:Stmt:=bK (top 3) 3
theorem J4:aE ["self","block"] ["self","block"] (az s_4):=∅
abbrev s_5:Stmt:=bK (top 3) 4
theorem sc_5:aE ["self","rows","block","row"] ["self","rows","block"] (az s_5):=∅
abbrev s_6:Stmt:=bK (top 3) 5
theorem J5:aE ["self","row","block"] ["self","row","block"] (az s_6):=∅
abbrev s_7:Stmt:=bK (top 3) 6
theorem sc_7:aE ["self","row","block","behind","ones","others"] ["self","row","block"] (az s_7):=∅
abbrev s_8:Stmt:=bK (top 3) 7
theorem sc_8:aE ["self","row","block","behind","look","inner"] ["self","row","block"] (az s_8):=∅
abbrev s_9:Stmt:=bK (top 5) 0
theorem J6:aE ["self","width","ins","boxes","rows"] ["self","width","ins","boxes","rows"] (az s_9):=∅
abbrev Gn:Stmt:=top 6
theorem HD:aE ["rows"] ["rows"] (az Gn):=∅
abbrev Gp:Stmt:=top 7
theorem HE:aE ["row"] ["row"] (az Gp):=∅
abbrev Gq:Stmt:=top 8
theorem sc_12:aE ["width","many","bit"] ["width"] (az Gq):=∅
abbrev Gr:Stmt:=top 9
theorem HF:aE ["op","x","y","width"] ["op","x","y","width"] (az Gr):=∅
abbrev Gs:Stmt:=top 12
theorem HG:aE ["deed"] ["deed"] (az Gs):=∅
abbrev Gu:Stmt:=top 13
theorem HH:aE ["deed"] ["deed"] (az Gu):=∅
abbrev Gv:Stmt:=top 14
theorem HI:aE ["deed"] ["deed"] (az Gv):=∅
abbrev Gw:Stmt:=top 15
theorem HJ:aE ["deed"] ["deed"] (az Gw):=∅
abbrev Gx:Stmt:=top 16
theorem HK:aE ["operand","boxes"] ["operand","boxes"] (az Gx):=∅
abbrev Gy:Stmt:=top 17
theorem sc_19:aE ["deed","boxes","width","parts"] ["deed","boxes","width"] (az Gy):=∅
abbrev Gz:Stmt:=top 19
theorem HL:aE ["ending","boxes"] ["ending","boxes"] (az Gz):=∅
abbrev GB:Stmt:=top 20
theorem HM:aE ["ending","places"] ["ending","places"] (az GB):=∅
abbrev GC:Stmt:=top 22
theorem sc_22:aE ["deeds","j","k","earlier","later","name"] ["deeds","j","k"] (az GC):=∅
abbrev GE:Stmt:=top 23
theorem sc_23:aE ["deeds","units","layer","everything","ways","longer","done","beats","beat"] ["deeds","units"] (az GE):=∅
abbrev GF:Stmt:=bK (top 24) 0
theorem HN:aE ["self","deeds","units"] ["self","deeds","units"] (az GF):=∅
abbrev GG:Stmt:=bK (top 24) 1
theorem sc_25:aE ["self","done","place","missing","beats"] ["self","done"] (az GG):=∅
abbrev GH:Stmt:=bK (top 24) 2
theorem sc_26:aE ["self","done","beats","place","more","beat","taken"] ["self","done","beats","place"] (az GH):=∅
abbrev GI:Stmt:=bK (top 24) 3
theorem HP:aE ["self","done","beat","missing"] ["self","done","beat","missing"] (az GI):=∅
abbrev GJ:Stmt:=bK (top 24) 4
theorem sc_28:aE ["self","done","beat","place","sort","earlier","lean","ahead"] ["self","done","beat","place"] (az GJ):=∅
abbrev GK:Stmt:=top 26
theorem sc_29:aE ["program","words","boxes","name"] ["program","words"] (az GK):=∅
abbrev GL:Stmt:=bK (top 27) 0
theorem HQ:aE ["self","program","words"] ["self","program","words"] (az GL):=∅
abbrev GM:Stmt:=bK (top 27) 1
theorem HR:aE ["self"] ["self"] (az GM):=∅
abbrev GN:Stmt:=bK (top 27) 2
theorem sc_32:aE ["self","row"] ["self"] (az GN):=∅
abbrev GP:Stmt:=bK (top 27) 3
theorem HS:aE ["self","row"] ["self","row"] (az GP):=∅
abbrev GQ:Stmt:=bK (top 27) 4
theorem sc_34:aE ["self","deed","word","name"] ["self","deed"] (az GQ):=∅
abbrev GR:Stmt:=bK (top 27) 5
theorem HU:aE ["self","rows"] ["self","rows"] (az GR):=∅
abbrev GS:Stmt:=top 28
theorem sc_36:aE ["program","words","most","going","steps"] ["program","words","most"] (az GS):=∅
abbrev GT:Stmt:=top 30
theorem sc_37:aE ["program","units","blocks","block","laid_blocks","firsts","many","beats","table","deeds"] ["program","units"] (az GT):=∅
abbrev GU:Stmt:=top 31
theorem sc_38:aE ["block","units","deeds","ending","beats"] ["block","units"] (az GU):=∅
abbrev GV:Stmt:=top 32
theorem HV:aE ["deeds","name"] ["deeds","name"] (az GV):=∅
abbrev GW:Stmt:=bK (top 33) 0
theorem HW:aE ["self","program","table","words"] ["self","program","table","words"] (az GW):=∅
abbrev GX:Stmt:=bK (top 33) 1
theorem sc_41:aE ["self","state","after","deed","word","name"] ["self"] (az GX):=∅
abbrev GY:Stmt:=top 34
theorem sc_42:aE ["program","table","words","most","going","beats"] ["program","table","words","most"] (az GY):=∅
abbrev GZ:Stmt:=top 36
theorem HX:aE ["_law_found"] ["_law_found"] (az GZ):=∅
abbrev Ha:Stmt:=top 37
theorem HY:aE ["_law_script","_law_k"] ["_law_script","_law_k"] (az Ha):=∅
abbrev Hd:Stmt:=top 38
theorem sc_45:aE ["_law_cell","_law_k","_law_number"] ["_law_cell","_law_k"] (az Hd):=∅
abbrev He:Stmt:=top 39
theorem sc_46:aE ["_law_found","_law_due","_law_k"] ["_law_found","_law_due"] (az He):=∅
abbrev Hg:Stmt:=top 40
theorem sc_47:aE ["_law_number","_law_many","_law_letters","_law_some","_law_at_here","_law_names_here","_law_j","_law_spots"] ["_law_number","_law_many"] (az Hg):=∅
abbrev Hh:Stmt:=top 41
theorem HZ:aE ["_law_number","_law_names_here","_law_top"] ["_law_number","_law_names_here","_law_top"] (az Hh):=∅
abbrev Hi:Stmt:=top 42
theorem sc_49:aE ["_law_number","_law_names_here","_law_top","_law_name","_law_one","_law_other","_law_way"] ["_law_number","_law_names_here","_law_top"] (az Hi):=∅
abbrev Hj:Stmt:=top 43
theorem sc_50:aE ["_law_numbers","_law_names_here","_law_top","_law_deep","_law_rows","_law_at_here","_law_number","_law_cut","_law_end","_law_name","_law_ones"] ["_law_numbers","_law_names_here","_law_top","_law_deep"] (az Hj):=∅
abbrev Hk:Stmt:=top 44
theorem sc_51:aE ["_law_script","_law_start","_law_many","_law_k","_law_found","_law_some","_law_at_here","_law_left"] ["_law_script","_law_start","_law_many"] (az Hk):=∅
abbrev Hl:Stmt:=top 47
theorem I0:aE ["_law_operand_here","_law_boxes"] ["_law_operand_here","_law_boxes"] (az Hl):=∅
abbrev Hm:Stmt:=top 48
theorem Ia:aE ["_law_op","_law_x","_law_y","_law_width"] ["_law_op","_law_x","_law_y","_law_width"] (az Hm):=∅
abbrev Hn:Stmt:=top 49
theorem CS:aE ["_law_deed_here","_law_before","_law_boxes","_law_said","_law_width"] ["_law_deed_here","_law_before","_law_boxes","_law_said","_law_width"] (az Hn):=∅
abbrev Ho:Stmt:=top 50
theorem sc_55:aE ["_law_rows","_law_boxes","_law_said","_law_width","_law_left","_law_row"] ["_law_rows","_law_boxes","_law_said","_law_width","_law_left"] (az Ho):=∅
abbrev Hq:Stmt:=top 51
theorem sc_56:aE ["_law_drawn_here","_law_words_here","_law_boxes","_law_name"] ["_law_drawn_here","_law_words_here"] (az Hq):=∅
abbrev Hr:Stmt:=top 52
theorem sc_57:aE ["_law_drawn_here","_law_words_here","_law_most","_law_boxes","_law_said","_law_left"] ["_law_drawn_here","_law_words_here","_law_most"] (az Hr):=∅
abbrev Hs:Stmt:=top 53
theorem Ib:aE ["_law_found","_law_names_here","_law_top"] ["_law_found","_law_names_here","_law_top"] (az Hs):=∅
abbrev Ht:Stmt:=top 54
theorem sc_59:aE ["_law_found","_law_names_here","_law_top","_law_bad"] ["_law_found","_law_names_here","_law_top"] (az Ht):=∅
abbrev Hu:Stmt:=top 55
theorem Ic:aE ["_law_found","_law_names_here","_law_many"] ["_law_found","_law_names_here","_law_many"] (az Hu):=∅
abbrev Hv:Stmt:=top 56
theorem sc_61:aE ["_law_found","_law_drawn_here","_law_names_here","_law_part","_law_deed_here"] ["_law_found","_law_drawn_here"] (az Hv):=∅
abbrev Hw:Stmt:=top 57
theorem Id:aE ["_law_ending","_law_boxes"] ["_law_ending","_law_boxes"] (az Hw):=∅
abbrev Hx:Stmt:=top 58
theorem sc_63:aE ["_law_cell","_law_number"] ["_law_cell"] (az Hx):=∅
abbrev Hy:Stmt:=top 61
theorem sc_64:aE ["_law_table","_law_drawn_here","_law_words_here","_law_most","_law_boxes","_law_said","_law_at_here","_law_k","_law_before","_law_deed_here"] ["_law_table","_law_drawn_here","_law_words_here","_law_most"] (az Hy):=∅
abbrev Hz:Stmt:=top 62
theorem sc_65:aE ["_law_found","_law_due","_law_name"] ["_law_found","_law_due"] (az Hz):=∅
abbrev HA:Stmt:=top 63
theorem sc_66:aE ["_law_ins","_law_top","_law_found","_law_name","_law_grown","_law_words_here","_law_word_here","_law_more"] ["_law_ins","_law_top"] (az HA):=∅
abbrev HB:Stmt:=top 64
theorem sc_67:aE ["_law_program","_law_drawn_here","_law_table","_law_words_here","_law_due","_law_boxes","_law_left","_law_plain","_law_here"] ["_law_program","_law_drawn_here","_law_table","_law_words_here"] (az HB):=∅
abbrev HC:Stmt:=top 65
theorem sc_68:aE ["_law_script","_law_number","_law_names_here","_law_width","_law_ins","_law_rows","_law_drawn_here","_law_program","_law_table","_law_words_here"] ["_law_script"] (az HC):=∅
def kvs_SORTS:List (Key×V):=[(.inr "plus",.int 0),(.inr "less",.int 0),(.inr "below",.int 1),(.inr "same",.int 1),(.inr "and",.int 2),(.inr "or",.int 2),(.inr "xor",.int 2)]
set_option genInjectivity false in
structure Ad where
 pr:Params
 D_SORTS:Addr
 k_MOST_DEEDS:Tok
 C_Run:Addr
 C_TableRun:Addr
 C_Parting:Addr
 C_Program:Addr
 C_Layer:Addr
 f_0:Addr
 e_0:FuncData
 f_1:Addr
 e_1:FuncData
 f_2:Addr
 e_2:FuncData
 f_3:Addr
 e_3:FuncData
 f_4:Addr
 e_4:FuncData
 f_5:Addr
 e_5:FuncData
 f_6:Addr
 e_6:FuncData
 f_7:Addr
 e_7:FuncData
 f_8:Addr
 e_8:FuncData
 f_9:Addr
 e_9:FuncData
 f_10:Addr
 e_10:FuncData
 f_11:Addr
 e_11:FuncData
 f_12:Addr
 e_12:FuncData
 f_13:Addr
 e_13:FuncData
 f_14:Addr
 e_14:FuncData
 f_15:Addr
 e_15:FuncData
 f_16:Addr
 e_16:FuncData
 f_17:Addr
 e_17:FuncData
 f_18:Addr
 e_18:FuncData
 f_19:Addr
 e_19:FuncData
 f_20:Addr
 e_20:FuncData
 f_21:Addr
 e_21:FuncData
 f_22:Addr
 e_22:FuncData
 f_23:Addr
 e_23:FuncData
 f_24:Addr
 e_24:FuncData
 f_25:Addr
 e_25:FuncData
 f_26:Addr
 e_26:FuncData
 f_27:Addr
 e_27:FuncData
 f_28:Addr
 e_28:FuncData
 f_29:Addr
 e_29:FuncData
 f_30:Addr
 e_30:FuncData
 f_31:Addr
 e_31:FuncData
 f_32:Addr
 e_32:FuncData
 f_33:Addr
 e_33:FuncData
 f_34:Addr
 e_34:FuncData
 f_35:Addr
 e_35:FuncData
 f_36:Addr
 e_36:FuncData
 f_37:Addr
 e_37:FuncData
 f_38:Addr
 e_38:FuncData
 f_39:Addr
 e_39:FuncData
 f_40:Addr
 e_40:FuncData
 f_41:Addr
 e_41:FuncData
 f_42:Addr
 e_42:FuncData
 f_43:Addr
 e_43:FuncData
 f_44:Addr
 e_44:FuncData
 f_45:Addr
 e_45:FuncData
 f_46:Addr
 e_46:FuncData
 f_47:Addr
 e_47:FuncData
 f_48:Addr
 e_48:FuncData
 f_49:Addr
 e_49:FuncData
 f_50:Addr
 e_50:FuncData
 f_51:Addr
 e_51:FuncData
 f_52:Addr
 e_52:FuncData
 f_53:Addr
 e_53:FuncData
 f_54:Addr
 e_54:FuncData
 f_55:Addr
 e_55:FuncData
 f_56:Addr
 e_56:FuncData
 f_57:Addr
 e_57:FuncData
 f_58:Addr
 e_58:FuncData
 f_59:Addr
 e_59:FuncData
 f_60:Addr
 e_60:FuncData
 f_61:Addr
 e_61:FuncData
 f_62:Addr
 e_62:FuncData
 f_63:Addr
 e_63:FuncData
 f_64:Addr
 e_64:FuncData
 f_65:Addr
 e_65:FuncData
 f_66:Addr
 e_66:FuncData
 f_67:Addr
 e_67:FuncData
 f_68:Addr
 e_68:FuncData
structure Txt(K:W.Frag)(mg:Str->Option Value)(t:Ad):Prop where
 g_SORTS:mg "SORTS"=some (.ref t.D_SORTS)
 k_SORTS:nM K t.pr t.D_SORTS kvs_SORTS
 g_MOST_DEEDS:mg "MOST_DEEDS"=some (.int 8 t.k_MOST_DEEDS)
 c_Run:KlsAt K mg "Run" t.C_Run
 n_Run_width:NoAttr K t.C_Run "width"
 n_Run_left:NoAttr K t.C_Run "left"
 n_Run_boxes:NoAttr K t.C_Run "boxes"
 n_Run_told:NoAttr K t.C_Run "told"
 c_TableRun:KlsAt K mg "TableRun" t.C_TableRun
 n_TableRun_width:NoAttr K t.C_TableRun "width"
 n_TableRun_table:NoAttr K t.C_TableRun "table"
 n_TableRun_boxes:NoAttr K t.C_TableRun "boxes"
 n_TableRun_told:NoAttr K t.C_TableRun "told"
 n_TableRun_place:NoAttr K t.C_TableRun "place"
 c_Parting:KlsAt K mg "Parting" t.C_Parting
 n_Parting_blocks:NoAttr K t.C_Parting "blocks"
 c_Program:KlsAt K mg "Program" t.C_Program
 n_Program_width:NoAttr K t.C_Program "width"
 n_Program_ins:NoAttr K t.C_Program "ins"
 n_Program_boxes:NoAttr K t.C_Program "boxes"
 n_Program_rows:NoAttr K t.C_Program "rows"
 c_Layer:KlsAt K mg "Layer" t.C_Layer
 n_Layer_units:NoAttr K t.C_Layer "units"
 n_Layer_sorts:NoAttr K t.C_Layer "sorts"
 n_Layer_gaps:NoAttr K t.C_Layer "gaps"
 d_0:b8 K mg "blocks_of" s_0 ["program"] t.f_0 t.e_0
 d_1:bz K t.C_Parting "__init__" "Parting.__init__" s_1 ["self"] t.f_1 t.e_1
 d_2:bz K t.C_Parting "keep_place" "Parting.keep_place" s_2 ["self"] t.f_2 t.e_2
 d_3:bz K t.C_Parting "numbered" "Parting.numbered" s_3 ["self","block"] t.f_3 t.e_3
 d_4:bz K t.C_Parting "way_to" "Parting.way_to" s_4 ["self","block"] t.f_4 t.e_4
 d_5:bz K t.C_Parting "opened" "Parting.opened" s_5 ["self","rows","block"] t.f_5 t.e_5
 d_6:bz K t.C_Parting "with_row" "Parting.with_row" s_6 ["self","row","block"] t.f_6 t.e_6
 d_7:bz K t.C_Parting "with_if" "Parting.with_if" s_7 ["self","row","block"] t.f_7 t.e_7
 d_8:bz K t.C_Parting "with_while" "Parting.with_while" s_8 ["self","row","block"] t.f_8 t.e_8
 d_9:bz K t.C_Program "__init__" "Program.__init__" s_9 ["self","width","ins","boxes","rows"] t.f_9 t.e_9
 d_10:b8 K mg "copied" Gn ["rows"] t.f_10 t.e_10
 d_11:b8 K mg "copied_row" Gp ["row"] t.f_11 t.e_11
 d_12:b8 K mg "word_count" Gq ["width"] t.f_12 t.e_12
 d_13:b8 K mg "reckoned" Gr ["op","x","y","width"] t.f_13 t.e_13
 d_14:b8 K mg "operands_of" Gs ["deed"] t.f_14 t.e_14
 d_15:b8 K mg "boxes_read" Gu ["deed"] t.f_15 t.e_15
 d_16:b8 K mg "box_written" Gv ["deed"] t.f_16 t.e_16
 d_17:b8 K mg "sort_of" Gw ["deed"] t.f_17 t.e_17
 d_18:b8 K mg "word_of" Gx ["operand","boxes"] t.f_18 t.e_18
 d_19:b8 K mg "word_made" Gy ["deed","boxes","width"] t.f_19 t.e_19
 d_20:b8 K mg "place_led_to" Gz ["ending","boxes"] t.f_20 t.e_20
 d_21:b8 K mg "led_anew" GB ["ending","places"] t.f_21 t.e_21
 d_22:b8 K mg "gap" GC ["deeds","j","k"] t.f_22 t.e_22
 d_23:b8 K mg "laid" GE ["deeds","units"] t.f_23 t.e_23
 d_24:bz K t.C_Layer "__init__" "Layer.__init__" GF ["self","deeds","units"] t.f_24 t.e_24
 d_25:bz K t.C_Layer "full_beats" "Layer.full_beats" GG ["self","done"] t.f_25 t.e_25
 d_26:bz K t.C_Layer "grown" "Layer.grown" GH ["self","done","beats","place"] t.f_26 t.e_26
 d_27:bz K t.C_Layer "has_room" "Layer.has_room" GI ["self","done","beat","missing"] t.f_27 t.e_27
 d_28:bz K t.C_Layer "fits" "Layer.fits" GJ ["self","done","beat","place"] t.f_28 t.e_28
 d_29:b8 K mg "first_boxes" GK ["program","words"] t.f_29 t.e_29
 d_30:bz K t.C_Run "__init__" "Run.__init__" GL ["self","program","words"] t.f_30 t.e_30
 d_31:bz K t.C_Run "is_over" "Run.is_over" GM ["self"] t.f_31 t.e_31
 d_32:bz K t.C_Run "go_step" "Run.go_step" GN ["self"] t.f_32 t.e_32
 d_33:bz K t.C_Run "look_at_while" "Run.look_at_while" GP ["self","row"] t.f_33 t.e_33
 d_34:bz K t.C_Run "do_deed" "Run.do_deed" GQ ["self","deed"] t.f_34 t.e_34
 d_35:bz K t.C_Run "put_ahead" "Run.put_ahead" GR ["self","rows"] t.f_35 t.e_35
 d_36:b8 K mg "run" GS ["program","words","most"] t.f_36 t.e_36
 d_37:b8 K mg "table_of" GT ["program","units"] t.f_37 t.e_37
 d_38:b8 K mg "beats_of" GU ["block","units"] t.f_38 t.e_38
 d_39:b8 K mg "writes" GV ["deeds","name"] t.f_39 t.e_39
 d_40:bz K t.C_TableRun "__init__" "TableRun.__init__" GW ["self","program","table","words"] t.f_40 t.e_40
 d_41:bz K t.C_TableRun "go_beat" "TableRun.go_beat" GX ["self"] t.f_41 t.e_41
 d_42:b8 K mg "run_table" GY ["program","table","words","most"] t.f_42 t.e_42
 d_43:b8 K mg "_law_whole" GZ ["_law_found"] t.f_43 t.e_43
 d_44:b8 K mg "_law_at" Ha ["_law_script","_law_k"] t.f_44 t.e_44
 d_45:b8 K mg "_law_mixed" Hd ["_law_cell","_law_k"] t.f_45 t.e_45
 d_46:b8 K mg "_law_list" He ["_law_found","_law_due"] t.f_46 t.e_46
 d_47:b8 K mg "_law_names" Hg ["_law_number","_law_many"] t.f_47 t.e_47
 d_48:b8 K mg "_law_operand" Hh ["_law_number","_law_names_here","_law_top"] t.f_48 t.e_48
 d_49:b8 K mg "_law_deed" Hi ["_law_number","_law_names_here","_law_top"] t.f_49 t.e_49
 d_50:b8 K mg "_law_statements" Hj ["_law_numbers","_law_names_here","_law_top","_law_deep"] t.f_50 t.e_50
 d_51:b8 K mg "_law_folds" Hk ["_law_script","_law_start","_law_many"] t.f_51 t.e_51
 d_52:b8 K mg "_law_word" Hl ["_law_operand_here","_law_boxes"] t.f_52 t.e_52
 d_53:b8 K mg "_law_made" Hm ["_law_op","_law_x","_law_y","_law_width"] t.f_53 t.e_53
 d_54:b8 K mg "_law_do" Hn ["_law_deed_here","_law_before","_law_boxes","_law_said","_law_width"] t.f_54 t.e_54
 d_55:b8 K mg "_law_through" Ho ["_law_rows","_law_boxes","_law_said","_law_width","_law_left"] t.f_55 t.e_55
 d_56:b8 K mg "_law_begun" Hq ["_law_drawn_here","_law_words_here"] t.f_56 t.e_56
 d_57:b8 K mg "_law_run" Hr ["_law_drawn_here","_law_words_here","_law_most"] t.f_57 t.e_57
 d_58:b8 K mg "_law_fine_operand" Hs ["_law_found","_law_names_here","_law_top"] t.f_58 t.e_58
 d_59:b8 K mg "_law_fine_deed" Ht ["_law_found","_law_names_here","_law_top"] t.f_59 t.e_59
 d_60:b8 K mg "_law_fine_ending" Hu ["_law_found","_law_names_here","_law_many"] t.f_60 t.e_60
 d_61:b8 K mg "_law_fine" Hv ["_law_found","_law_drawn_here"] t.f_61 t.e_61
 d_62:b8 K mg "_law_next" Hw ["_law_ending","_law_boxes"] t.f_62 t.e_62
 d_63:b8 K mg "_law_units" Hx ["_law_cell"] t.f_63 t.e_63
 d_64:b8 K mg "_law_table_run" Hy ["_law_table","_law_drawn_here","_law_words_here","_law_most"] t.f_64 t.e_64
 d_65:b8 K mg "_law_told" Hz ["_law_found","_law_due"] t.f_65 t.e_65
 d_66:b8 K mg "_law_choices" HA ["_law_ins","_law_top"] t.f_66 t.e_66
 d_67:b8 K mg "_law_holds" HB ["_law_program","_law_drawn_here","_law_table","_law_words_here"] t.f_67 t.e_67
 d_68:b8 K mg "law" HC ["_law_script"] t.f_68 t.e_68
 z_range:mg "range"=none
 z_isinstance:mg "isinstance"=none
 z_int:mg "int"=none
 z_bool:mg "bool"=none
 z_len:mg "len"=none
 z_str:mg "str"=none
 z_tuple:mg "tuple"=none
 z_sum:mg "sum"=none
 z_list:mg "list"=none
 z_min:mg "min"=none
 z_reversed:mg "reversed"=none
 z_enumerate:mg "enumerate"=none
 z_sorted:mg "sorted"=none
 z_any:mg "any"=none
 z_zip:mg "zip"=none
 z_dict:mg "dict"=none
theorem xQ{K:W.Frag}{pr:Params}{D:Addr}{h0 h1 h2 h3 h4 h5 h6:Int}{t0 u0 t1 u1 t2 u2 t3 u3 t4 u4 t5 u5 t6 u6:Tok}{ep:Nat}(l:K.lookup D=some ⟨.type "dict",none,.dict #[⟨h0,.str "plus" t0,.int 0 u0⟩,⟨h1,.str "less" t1,.int 0 u1⟩,⟨h2,.str "below" t2,.int 1 u2⟩,⟨h3,.str "same" t3,.int 1 u3⟩,⟨h4,.str "and" t4,.int 2 u4⟩,⟨h5,.str "or" t5,.int 2 u5⟩,⟨h6,.str "xor" t6,.int 2 u6⟩] ep,#[]⟩) (s:(D==sysModules)=false) (hD:[h0,h1,h2,h3,h4,h5,h6]=kvs_SORTS.map (fun kv=>Dw pr kv.1)):nM K pr D kvs_SORTS:=by simp only [kvs_SORTS,List.map_cons,List.map_nil,List.cons.injEq,and_true] at hD;obtain ⟨e0,e1,e2,e3,e4,e5,e6⟩:=hD;exact zAE _ _ l s Jk (.cons (zAB Jl e0 ⟨_,rfl⟩) (.cons (zAB Jl e1 ⟨_,rfl⟩) (.cons (zAB Jl e2 ⟨_,rfl⟩) (.cons (zAB Jl e3 ⟨_,rfl⟩) (.cons (zAB Jl e4 ⟨_,rfl⟩) (.cons (zAB Jl e5 ⟨_,rfl⟩) (.cons (zAB Jl e6 ⟨_,rfl⟩) (.nil))))))))
variable {H:Hp} {u:TS}
def ja(u:TS)(D:dm):L2.St->Hp->Prop:=u D
theorem later{D:dm}{σ:L2.St}(h:u D σ H):ja u D σ H:=h
theorem zf{t:TS}{D:dm}{σ:L2.St}:EY t u D σ H=t {D with nx:=ja u D} σ H:=rfl
theorem yX{t:TS}{D:dm}{σ:L2.St}:EX t u D σ H=∃Mid:L2.St->Hp->Prop,t {D with nx:=Mid} σ H/\∀σ' H',Mid σ' H'->ja u D σ' H':=rfl
theorem Et{c:TT}{t:TS}{D:dm}{σ:L2.St}:EW c t u D σ H=c σ H fun b H1=>if b=true then ja t D σ H1 else ja u D σ H1:=rfl
end K53
local macro_rules | `(tactic| simp_arith! [$ts,*])=>`(tactic| simp_arith [-L2.ze,-L2.yW,K53.zf,K53.yX,$ts,*])
local macro_rules | `(tactic| simp_arith only [$ts,*])=>`(tactic| simp_arith [-L2.ze,-L2.CM,-L2.yW,K53.zf,K53.Et,K53.yX,$ts,*])
namespace K53
open PySem L2 PyProof.Rows FD FB FS FO FR FG
def qf:Sp:=fun vs H Q _=>∃c k:Int,vs=[.int c,.int k]/\Builtin.Int.intBits c<=2 ^ 20/\0<=k/\k<=1000/\Q (.int (iu c k)) H
theorem fF{c k:Int}{H:Hp}{Q:VK}{E:XK}:qf [.int c,.int k] H Q E=(Builtin.Int.intBits c<=2 ^ 20/\0<=k/\k<=1000/\Q (.int (iu c k)) H):=propext ⟨by rintro ⟨_,_,e,q⟩;cases e;exact q,by intro q;exact zAD c k rfl q⟩
def CT(K:W.Frag):Sp:=fun vs H Q _=>∃(a:Addr)(ns:List Int)(k:Int),vs=[.ref a,.int k]/\SqL K H a (ns.map V.int)/\0<=k/\Q (.int (atF ns k)) H
section
variable {P:Program} {w:World} {K:W.Frag} {mg:Str->Option Value} {base:Heap} {t:Ad}
theorem E6{a:Addr}{k:Int}{H:Hp}{Q:VK}{E:XK}:CT K [.ref a,.int k] H Q E=∃ns:List Int,SqL K H a (ns.map V.int)/\0<=k/\Q (.int (atF ns k)) H:=propext ⟨by rintro ⟨_,ns,_,e,q⟩;cases e;exact ⟨ns,q⟩,by rintro ⟨ns,q⟩;exact zAI a ns k rfl q⟩
theorem kh(T:Txt K mg t):FnOk P w K mg base CX0 1 t.f_45 t.e_45 ["_law_cell","_law_k"] qf:=by
 refine T.d_45.F.ok sc_45 ∅ ?_;rintro cdv A outer s H vs Q E hr ⟨c,k,rfl,hb,k0,k1,q⟩;refine ⟨_,
   (XSs.h
   (ai
    (aG (av nH (yqv 0 vl) (ax uV ae ae) (aA _))
     (ak
      (au (ax aU (ax bh (ax cP (yqv 0 vl) (ax uV ae ae)) (ax fK ae (ax cO ae (ax aU (yqv 1 vl) ae)))) (ax fK ae ae))))
     aC)
   (ai
    (ay (i:=2) sc_45.nd rfl ll (ax aU (ax bw (ax bw (ax cO (yqv 0 vl) ae) (ax cO (ax cO ae (yqv 1 vl)) (yqv 1 vl))) (yqv 1 vl)) ae))
   (ai
    (ay (i:=2) sc_45.nd rfl ll (ax aU (ax cO (yqv 2 vl) (yqv 2 vl)) ae))
   (ak
    (au (ax aU (ax cO (yqv 2 vl) ae) ae))))))),?_⟩
 rw [show aL _ [V.int c,V.int k]=[some (.int c),some (.int k),none] from rfl];rwa [];unfold iu at q;have cp:vf 10 40:=zAB Jm Jm Jm
 refine ⟨cp,aF (fun e=>?_) (fun e=>?_)⟩
 ·rw [if_pos e] at q;have m0:0<=k % 60:=gi _ Jm;have m1:k % 60<60:=js _ Jm;refine zAT cp (.inl ⟨Jm,Jm⟩) (zAB Jn Jn Jm) (FA.CDivB.pow Jn) (zAB Jm Jm Jm) Jm q
 ·rw [if_neg e] at q;have n0:0<=(c * 1103515245+7919 * k * k+k) % 2147483647:=gi _ Jm;have n1:(c * 1103515245+7919 * k * k+k) % 2147483647<2147483647:=js _ Jm;refine zAQ (.inr ⟨Jm,Jm⟩) (.inl ⟨Jm,Jm⟩) (.inr ⟨Jn,Jn⟩) (.inl ⟨Jn,Jn⟩) (.inr ⟨Jm,Jm⟩) q
theorem Fp(T:Txt K mg t):FnOk P w K mg base CX0 1 t.f_44 t.e_44 ["_law_script","_law_k"] (CT K):=by
 refine T.d_44.F.ok HY ∅ ?_;rintro cdv A outer s H vs Q E hr ⟨a,ns,k,rfl,hS,k0,q⟩;refine ⟨_,
   (XSs.h
   (ai
    (aG (av dg (yqv 1 vl) (aB aD gl T.z_len PySem.boot_len (aa (yqv 0 vl) ac)) (aA _))
     (ak
      (au (am aS (yqv 0 vl) (yqv 1 vl))))
     aC)
   (ak
    (au ae)))),?_⟩
 rw [show aL _ [V.ref a,V.int k]=[some (.ref a),some (.int k)] from rfl];rwa [];unfold atF at q;refine zn _ (.inl hS) (aF (fun e=>?_) (fun e=>?_))
 ·rw [zq1] at e;rw [if_pos e] at q;obtain ⟨n,rfl⟩:=qP k0;have hn:n<ns.length:=by omega
  refine zAA _ _ hS (bo (by rw [cf,zq8 hn];rfl)) ?_;rw [eh,fN,zq8 hn] at q;exact q
 ·rw [zq1] at e;rw [if_neg e] at q;exact q
def sp_law(K:W.Frag):Sp:=fun vs H Q _=>∃(a:Addr)(ns:List Int),vs=[.ref a]/\SqL K H a (ns.map V.int)/\ns.length<=63/\(∀z∈ns,Builtin.Int.intBits z<=2 ^ 20)/\∀H',Q (.bl true) H'
def qm(K:W.Frag):Sp:=fun vs H Q _=>∃(x:V)(k:String),vs=[x]/\i5 K H x k/\Q (.bl (decide (k="int"))) H
theorem iw(T:Txt K mg t):FnOk P w K mg base CX0 1 t.f_43 t.e_43 ["_law_found"] (qm K):=by
 refine T.d_43.F.ok HX ∅ ?_;rintro cdv A outer s H vs Q E hr ⟨x,k,rfl,hk,q⟩;refine ⟨_,
   (XSs.h
   (ak
    (au (cL (aB bD gl T.z_isinstance boot_isinstance (aa (yqv 0 vl) (aa (bF (v:=.ty "int") gl T.z_int boot_int rfl) ac))) (dB (Ck (aB bD gl T.z_isinstance boot_isinstance (aa (yqv 0 vl) (aa (bF (v:=.ty "bool") gl T.z_bool boot_bool rfl) ac))))))))),?_⟩
 rw [show aL _ [x]=[some x] from rfl];rwa [];refine zAH x ("int") k rfl Jk hk (zn _ rfl (ip (fun e=>zAH x ("bool") k rfl Jk hk (zn _ rfl ?_)) (fun e=>?_)))
 ·have h:k="int"\/k="bool":=by
   unfold mO at e;rw [kO,dF] at e;rcases e with e | e
   ·exact .inl (by simpa using e)
   ·exact .inr (by simpa using e.1)
  rcases h with rfl | rfl
  ·exact q
  ·exact q
 ·have h:¬k="int":=fun z=>by subst z;exact absurd e Jk
  rw [decide_eq_false h] at q;exact q
theorem eZ{i:Int}{H:Hp}{Q:VK}{E:XK}:qm K [.int i] H Q E=Q (.bl true) H:=propext ⟨by rintro ⟨_,_,e,k,q⟩;cases e;cases k;exact q,by intro q;exact zAA _ _ rfl .int q⟩
def qg:Sp:=fun vs H Q _=>∃n m:Int,vs=[.int n,.int m]/\0<=n/\0<=m/\m<=8/\∀p H',Same H H'->H p=none->H' p=some (.lst ((hX n m.toNat).map V.str))->Q (.ref p) H'
theorem C0{n m:Int}{H:Hp}{Q:VK}{E:XK}:qg [.int n,.int m] H Q E=(0<=n/\0<=m/\m<=8/\∀p H',Same H H'->H p=none->H' p=some (.lst ((hX n m.toNat).map V.str))->Q (.ref p) H'):=propext ⟨by rintro ⟨_,_,e,q⟩;cases e;exact q,by intro q;exact zAD n m rfl q⟩
theorem C9{n:Int}:(List.range (1+n % 6).toNat).map (fun i:Nat=>V.int (n / ((i:Int)+1) % 26))=(cQ n).map V.int:=by unfold cQ;rw [fM];rfl
def gT(n:Int)(j:Nat):List Int:=(List.range (cQ n).length).map fun k:Nat=>(cQ n).getD k 0+3 * (j:Int) * (if decide ((k:Int)=n / 64 % ((cQ n).length:Int))=true then 1 else 0)
theorem wH{n:Int}{j:Nat}:Txt.join "" ((gT n j).map fW)=tO n j:=by unfold gT tO;rw [fM];rfl
theorem rn{z:Int}:(fW z).length=1:=rfl
theorem zL{xs:List Int}:((xs.map fW).map (·.length)).sum=xs.length:=by
 induction xs with
 |nil=>rfl
 |cons x xs ih=>rw [dh,dh,List.sum_cons,ih,rn,dk];omega
theorem yk(T:Txt K mg t):FnOk P w K mg base CX0 1 t.f_47 t.e_47 ["_law_number","_law_many"] qg:=by
 refine T.d_47.F.ok sc_47 ∅ ?_;rintro cdv A outer s H vs Q E hr ⟨n,m,rfl,n0,m0,m8,q⟩;refine ⟨_,
   (XSs.h
   (ai
    (ay (i:=2) sc_47.nd rfl lc aI)
   (ai
    (ay (i:=3) sc_47.nd rfl lc (bT (tns:=["_law_k"]) (cns:=["_law_number"]) (ci:=[0]) rfl (CompSc.of Jl) (bX gl T.z_range (aa (ax bw ae (ax aU (yqv 0 vc) ae)) ac)) (fun _=>(aH (i:=1) (show List.Nodup [(".0":Str),("_law_k":Str),("_law_number":Str)] by decide +kernel) rfl ll (Or.inr Jl))) (fun _=>cC) (fun _=>(ax aU (ax bh (yqv 2 vc) (ax bw (yqv 1 vl) ae)) ae))))
   (ai
    (ay (i:=4) sc_47.nd rfl lc (ax aU (ax bh (yqv 0 vc) ae) (aB aD gl T.z_len PySem.boot_len (aa (yqv 3 vc) ac))))
   (ai
    (ay (i:=5) sc_47.nd rfl ll (aT ac))
   (ai
    (bu PassesOwn.never rfl (bX gl T.z_range (aa (yqv 1 vl) ac)) (aH (i:=6) sc_47.nd rfl lc)
     (ai
      (d5 (i:=7) sc_47.nd rfl ll rfl Jl (tns:=["_law_k"]) (cns:=["_law_some","_law_at_here","_law_j"]) (ci:=[3,4,6]) rfl (CompSc.of Jl) (bX gl T.z_range (aa (aB aD gl T.z_len PySem.boot_len (aa (yqv 3 vc) ac)) ac)) (fun _=>(aH (i:=1) (show List.Nodup [(".0":Str),("_law_k":Str),("_law_some":Str),("_law_at_here":Str),("_law_j":Str)] by decide +kernel) rfl ll (Or.inr Jl))) (fun _=>cC) (fun _=>(ax bw (am aS (yqv 2 vc) (yqv 1 vl)) (ax cO (ax cO ae (yqv 4 vc)) (bL dq gl T.z_int boot_int (aa (aW aR (yqv 1 vl) (yqv 3 vc) (aA _)) ac))))))
     (ak
      (aY (c5 PySem.F.plainAttrs_list PySem.F.slot_list_append PySem.F.type_list_append ba (yqv 5 vl) (aa (c5 PySem.F.plainAttrs_str PySem.F.slot_str_join PySem.F.type_str_join Bd aI (aa (bT (tns:=["_law_spot"]) (cns:=["_law_letters"]) (ci:=[2]) rfl (CompSc.of Jl) (b9 (yqv 7 vl)) (fun _=>(aH (i:=1) (show List.Nodup [(".0":Str),("_law_spot":Str),("_law_letters":Str)] by decide +kernel) rfl ll (Or.inr Jl))) (fun _=>cC) (fun _=>(am Dv (yqv 2 vc) (ax aU (yqv 1 vl) ae)))) ac)) ac))))))
   (ai
    (aG (av aR (ax aU (ax bh (yqv 0 vc) ae) ae) ae (aA _))
     (ak
      (ay (i:=5) sc_47.nd rfl ll (bO dA (aT (fk Jp)) cJ (bM (yqv 1 vl)))))
     aC)
   (ak
    (au (yqv 5 vl)))))))))),?_⟩
 rw [show aL _ [V.int n,V.int m]=[some (.int n),some (.int m),none,none,none,none,none,none] from rfl];rwa [];have z0:0<=n % 6:=gi _ Jm;have z1:n % 6<6:=js _ Jm;have hln:=nv n;have hl1:1<=(cQ n).length/\(cQ n).length<=6:=by omega
 refine zAB Jn Jn fun acc hacc bk=>tj (fun i=>V.int (n / ((i:Int)+1) % 26)) (by rw [sizeLine_eq];omega) hacc (fun i hi H3 Q' s3 h=>?_) ?_
 ·rwa [];exact ⟨CDivB.small Jn (by omega +splitNatSub),h⟩
 rw [C9];unfold hX at q;have sA:Same H (upd H acc (.lst ((cQ n).map V.int))):=Same.upd hacc;refine ⟨CDivB.small Jm Jm,zAC _ (.inl (SqL.of aj)) (by rw [zq1];omega) fun p0 hp0=>zAB Jn Jn ?_⟩;have hq0:H p0=none:=sA.free hp0;rw [zq1];refine eT (fun j σ H'=>Same (upd H acc (.lst ((cQ n).map V.int))) H'/\H' p0=some (.lst ((List.range j).map fun i=>V.str (tO n i)))/\∃o6 o7,σ=[some (.int n),some (.int m),some (.str "abcdefghijklmnopqrstuvwxyz"),some (.ref acc),some (.int (n / 64 % ((cQ n).length:Int))),some (.ref p0),o6,o7])
  (zAB (Same.upd hp0) aj (zAM _ _ rfl)) ?_ ?_
 ·rintro j σ H' hj ⟨sm,hl,o6,o7,rfl⟩;rwa [];have hA:H' acc=some (.lst ((cQ n).map V.int)):=sm _ _ aj;refine zAF _ (.inl (SqL.of hA)) (by rw [zq1];omega) (by rw [zq1];omega +splitNatSub) fun b hb bk=>?_;rw [eh,zq1];refine tj (fun k=>V.int ((cQ n).getD k 0+3 * (j:Int) * (if decide ((k:Int)=n / 64 % ((cQ n).length:Int))=true then 1 else 0))) (by rw [sizeLine_eq];omega) hb (fun k hk H3 Q' s3 h=>?_) ?_
  ·rwa [];refine zAA _ _ (SqL.of (s3 _ _ hA)) (bo (v:=V.int ((cQ n).getD k 0)) (by rw [cf,fN,zq8 hk];rfl)) ?_;rwa [];refine zAB (.inl ⟨Jm,Jm⟩) (.inl ⟨Jn,by omega +splitNatSub⟩) h
  have e1:(List.range (cQ n).length).map (fun k:Nat=>V.int ((cQ n).getD k 0+3 * (j:Int) * (if decide ((k:Int)=n / 64 % ((cQ n).length:Int))=true then 1 else 0)))=(gT n j).map V.int:=by unfold gT;rw [fM];rfl
  rw [e1];have s1:=Same.upd (o:=.lst ((gT n j).map V.int)) hb;have hs6:(gT n j).length<=6:=by unfold gT;simp;omega
  refine zAB (.inl ⟨rfl,_,SqL.of (s1 _ _ hl)⟩) ⟨_,SqL.of aj⟩ fun c hc bk2=>?_;refine AY (fun x=>match x with | .int i=>.str (fW i) | _=>.non) (by rw [zq1,sizeLine_eq];omega) (SqL.of aj) hc (fun x hx H3 Q' s3 h=>?_) ?_
  ·obtain ⟨i,_,rfl⟩:=zq21.mp hx;rwa [];exact ⟨Jk,zn _ (FA.DB i) h⟩
  have e2:((gT n j).map V.int).map (fun x=>match x with | .int i=>V.str (fW i) | _=>.non)=((gT n j).map fW).map V.str:=by rw [fM,fM];rfl
  rw [e2];have s2:=s1.updN (o:=.lst (((gT n j).map fW).map V.str)) hc;refine zAC _ (SqL.of aj) ?_ (zBA _ (s2 _ _ hl) ?_ ((sm.trans s2).updM hp0) ?_ (zAM _ _ rfl))
  ·rw [zL,zq1];have:("":Str).length=0:=by decide +kernel
   rw [this];omega
  ·rw [zq1,gL,sizeLine_eq];omega
  ·rw [aj,wH,Ap,cS];rfl
 ·rintro σ H' ⟨sm,hl,o6,o7,rfl⟩;rwa [];refine ⟨CDivB.small Jm Jm,aF (fun e=>?_) (fun e=>?_)⟩
  ·rw [if_pos e] at q;intro b hb;refine zn _ (SqL.of aj) fun c hc=>?_;refine q c _ ((sA.trans sm).trans ((Same.upd hb).updN hc)) ((sA.trans sm).free ((Same.upd hb).free hc)) ?_;rw [aj,ii m0,sH];rfl
  ·rw [if_neg e] at q;refine q p0 H' (sA.trans sm) hq0 ?_;rw [hl,fM];rfl
structure NmsV(K:W.Frag)(H:Hp)(b:Addr)(ns:List Str)(wd:Int):Prop where
 at_:SqL K H b (ns.map V.str)
 pos:0<ns.length
 few:ns.length<=8
 w1:1<=wd
 w8:wd<=8
theorem NmsV.same{K:W.Frag}{H H':Hp}{b:Addr}{ns:List Str}{wd:Int}(h:NmsV K H b ns wd)(s:Same H H'):NmsV K H' b ns wd:=⟨s.seq h.at_,h.pos,h.few,h.w1,h.w8⟩
def sT(K:W.Frag)(n:Int)(b:Addr)(top:Int)(H:Hp)(Q:VK):Prop:=∃(ns:List Str)(wd:Int),top=1 * 2 ^ wd.toNat/\NmsV K H b ns wd/\∀(o:Opd)H',Same H H'->Opd.good ns wd o->Q o.v H'
def uE(K:W.Frag):Sp:=fun vs H Q _=>∃(n:Int)(b:Addr)(top:Int),vs=[.int n,.ref b,.int top]/\sT K n b top H Q
theorem z6{n:Int}{b:Addr}{top:Int}{H:Hp}{Q:VK}{E:XK}:uE K [.int n,.ref b,.int top] H Q E=sT K n b top H Q:=propext ⟨by rintro ⟨_,_,_,e,q⟩;cases e;exact q,fun q=>zAI _ _ _ rfl q⟩
theorem mR{ns:List Str}{x:Int}(h:0<ns.length):∃n∈ns,atI (ns.map V.str) (x % ((ns.map V.str).length:Int))=some (V.str n):=by
 have l0:(0:Int)<((ns.map V.str).length:Int):=by rw [zq1];omega
 have h0:=gi x (show ((ns.map V.str).length:Int)≠0 by omega);have h1:=js x l0;generalize x % ((ns.map V.str).length:Int)=y at h0 h1;obtain ⟨m,rfl⟩:∃m:Nat,y=(m:Int):=⟨y.toNat,Jn⟩
 rw [zq1] at h1;refine zn (ns[m]) (lu Jn) (bo ?_);rw [cf,zq8 Jn];rfl
theorem Br(T:Txt K mg t):FnOk P w K mg base CX0 1 t.f_48 t.e_48 ["_law_number","_law_names_here","_law_top"] (uE K):=by
 refine T.d_48.F.ok HZ ∅ ?_;rintro cdv A outer s H vs Q E hr ⟨n,b,top,rfl,ns,wd,htop,hN,q⟩;have hp:(0:Int)<top:=by rw [htop,AJ];exact sD Jm
 refine ⟨_,
   (XSs.h
   (ai
    (aG (av aR (ax aU (yqv 0 vl) ae) ae (aA _))
     (ak
      (au (ax aU (am aS (aT (aa (ax aU (ax bh (yqv 0 vl) ae) (yqv 2 vl)) (aa (ax cP (yqv 2 vl) ae) (fk Jp)))) (ax aU (ax bh (yqv 0 vl) ae) ae)) (yqv 2 vl))))
     aC)
   (ak
    (au (am aS (yqv 1 vl) (ax aU (ax bh (yqv 0 vl) ae) (aB aD gl T.z_len PySem.boot_len (aa (yqv 1 vl) ac)))))))),?_⟩
 rw [show aL _ [V.int n,V.ref b,V.int top]=[some (.int n),some (.ref b),some (.int top)] from rfl];rwa [];refine aF (fun _=>zAB (CDivB.small Jm Jm) hp fun p hp0=>⟨CDivB.small Jm Jm,?_⟩) (fun _=>?_)
 ·have s1:=Same.upd (o:=.lst [V.int (n / 12 % top),V.int (top-1),V.int 0,V.int 1]) hp0;obtain ⟨z,hz⟩:∃z:Int,atI [V.int (n / 12 % top),V.int (top-1),V.int 0,V.int 1] (n / 3 % 4)=some (V.int z):=by
   rcases (by omega:n / 3 % 4=0\/n / 3 % 4=1\/n / 3 % 4=2\/n / 3 % 4=3) with e | e | e | e<;>rw [e]
   ·exact ⟨_,rfl⟩
   ·exact ⟨_,rfl⟩
   ·exact ⟨_,rfl⟩
   ·exact ⟨_,rfl⟩
  refine ⟨_,_,SqL.of aj,hz,hp,q (.word (z % top)) _ s1 ⟨gi _ Jn,?_⟩⟩;have:=js z hp;rw [htop,AJ] at this ⊢;exact this
 ·obtain ⟨m,hm,he⟩:=mR (ns:=ns) (x:=n / 3) hN.pos;exact ⟨CDivB.small Jm Jm,zAC _ (.inl hN.at_) (by rw [zq1];have:=hN.pos;omega) (zAA _ _ hN.at_ he (q (.box m) H (Same.refl _) hm))⟩
def jM(K:W.Frag)(n:Int)(b:Addr)(top:Int)(H:Hp)(Q:VK):Prop:=∃(ns:List Str)(wd:Int),top=1 * 2 ^ wd.toNat/\NmsV K H b ns wd/\∀(d:Deed)q H',Same H H'->H' q=some (.tup d.vs)->d.fine->Deed.good ns wd d->Q (.ref q) H'
def pV(K:W.Frag):Sp:=fun vs H Q _=>∃(n:Int)(b:Addr)(top:Int),vs=[.int n,.ref b,.int top]/\jM K n b top H Q
theorem mY{n:Int}{b:Addr}{top:Int}{H:Hp}{Q:VK}{E:XK}:pV K [.int n,.ref b,.int top] H Q E=jM K n b top H Q:=propext ⟨by rintro ⟨_,_,_,e,q⟩;cases e;exact q,fun q=>zAI _ _ _ rfl q⟩
theorem yc(T:Txt K mg t):FnOk P w K mg base CX0 2 t.f_49 t.e_49 ["_law_number","_law_names_here","_law_top"] (pV K):=by
 have G_48:=@Br P w K mg base t T;refine T.d_49.F.ok sc_49 ∅ ?_;rintro cdv A outer s H vs Q E hr ⟨n,b,top,rfl,ns,wd,htop,hN,q⟩;refine ⟨_,
   (XSs.h
   (ai
    (ay (i:=3) sc_49.nd rfl ll (am aS (yqv 1 vl) (ax aU (ax bh (yqv 0 vl) ae) (aB aD gl T.z_len PySem.boot_len (aa (yqv 1 vl) ac)))))
   (ai
    (ay (i:=4) sc_49.nd rfl ll (ap T.d_48 G_48 hr.m (aa (ax bh (yqv 0 vl) ae) (aa (yqv 1 vl) (aa (yqv 2 vl) ac))) gl))
   (ai
    (ay (i:=5) sc_49.nd rfl ll (ap T.d_48 G_48 hr.m (aa (ax bh (yqv 0 vl) ae) (aa (yqv 1 vl) (aa (yqv 2 vl) ac))) gl))
   (ai
    (ay (i:=6) sc_49.nd rfl ll (ax aU (yqv 0 vl) ae))
   (ai
    (aG (av dg (yqv 6 vl) ae (aA _))
     (ak
      (au (aP (aa aI (aa (yqv 4 vl) ac)))))
     aC)
   (ai
    (aG (av aR (yqv 6 vl) ae (aA _))
     (ak
      (au (aP (aa aI (aa (yqv 3 vl) (aa (yqv 4 vl) ac))))))
     aC)
   (ak
    (au (aP (aa (am aS (aT (fk Jp)) (ax cP (yqv 6 vl) ae)) (aa (yqv 3 vl) (aa (yqv 4 vl) (aa (yqv 5 vl) ac)))))))))))))),?_⟩
 rw [show aL _ [V.int n,V.ref b,V.int top]=[some (.int n),some (.ref b),some (.int top),none,none,none,none] from rfl];rwa [z6];obtain ⟨c,hc,he⟩:=mR (ns:=ns) (x:=n / 10) hN.pos;refine ⟨CDivB.small Jm Jm,zAC _ (.inl hN.at_) (by rw [zq1];have:=hN.pos;omega) (zAE _ _ hN.at_ he (CDivB.small Jm Jm) (zAA ns wd htop hN fun o H1 s1 ho=>?_))⟩;rwa [z6];refine ⟨CDivB.small Jm Jm,zAA ns wd htop (hN.same s1) fun o2 H2 s2 ho2=>?_⟩;have s12:=s1.trans s2;refine aF (fun _ p hp=>q (.tell o) p _ (s12.updN hp) aj trivial ho) (fun h2=>?_);refine aF (fun _ p hp=>q (.copy c o) p _ (s12.updN hp) aj trivial ⟨hc,ho⟩) (fun h3=>?_);intro p hp;have m0:0<=n % 10:=gi _ Jm;have m1:n % 10<10:=js _ Jm;obtain ⟨f,hf,hfe⟩:∃f∈opsL,atI [V.str "plus",V.str "less",V.str "and",V.str "or",V.str "xor",V.str "below",V.str "same"] (n % 10-3)=some (V.str f):=by
  rcases (by omega:n % 10-3=0\/n % 10-3=1\/n % 10-3=2\/n % 10-3=3\/n % 10-3=4\/n % 10-3=5\/n % 10-3=6) with e | e | e | e | e | e | e<;>rw [e]
  ·exact zn ("plus") Jk rfl
  ·exact zn ("less") Jk rfl
  ·exact zn ("and") Jk rfl
  ·exact zn ("or") Jk rfl
  ·exact zn ("xor") Jk rfl
  ·exact zn ("below") Jk rfl
  ·exact zn ("same") Jk rfl
 refine zAA _ _ (SqL.of aj) hfe fun p2 hp2=>?_;exact q (.op f c o o2) p2 _ ((s12.updN hp).updN hp2) aj hf (zAG hf hc ho ho2)
def o1(K:W.Frag)(D:Nat)(a b:Addr)(top dp:Int)(H:Hp)(Q:VK):Prop:=∃(ns:List Str)(wd:Int)(xs:List Int)(e:Nat),top=1 * 2 ^ wd.toNat/\NmsV K H b ns wd/\dp=(e:Int)/\e<D/\SqL K H a (xs.map V.int)/\xs.length<=200/\
 ∀p ys ss g H',Same H H'->(∀c∈p::g,H c=none)->p∉g->H' p=some (.lst ys)->StmsV K H' ys ss g->bC ns wd ss->cm ss<=e->bq ss<=2 * xs.length->Q (.ref p) H'
def iG(K:W.Frag)(D:Nat):Sp:=fun vs H Q _=>∃(a b:Addr)(top dp:Int),vs=[.ref a,.ref b,.int top,.int dp]/\o1 K D a b top dp H Q
def StI(K:W.Frag)(H:Hp)(ns:List Str)(wd:Int)(e:Nat)(k:Addr)(i:Nat)(H':Hp):Prop:=Same H H'/\∃ys ss g,H' k=some (.lst ys)/\StmsV K H' ys ss g/\k∉g/\(∀c∈g,H c=none)/\bC ns wd ss/\cm ss<=e/\bq ss<=2 * i
theorem iB{D:Nat}{a b:Addr}{top dp:Int}{H:Hp}{Q:VK}{E:XK}:iG K D [.ref a,.ref b,.int top,.int dp] H Q E=o1 K D a b top dp H Q:=propext ⟨by rintro ⟨_,_,_,_,e,q⟩;cases e;exact q,fun q=>zAP _ _ _ _ rfl q⟩
theorem StI.add{H H1 H2:Hp}{ns:List Str}{wd:Int}{e k i j:Nat}{x:V}{s:Stm}{g2:List Addr}(h:StI K H ns wd e k i H1)(hk:H k=none)(sm:Same H1 H2)(hx:StmV K H2 x s g2)(f2:∀c∈g2,H1 c=none)(hg:s.good ns wd)(hd:s.deep<=e)(hm:2 * i+s.many<=2 * j)(hj:j<=200):
  ∃ys,H2 k=some (.lst ys)/\ys.length<sizeLine/\StI K H ns wd e k j (upd H2 k (.lst (ys++[x]))):=by
 obtain ⟨s1,ys,ss,g,ek,hy,ng,fg,gd,dp,my⟩:=h;have e2:=sm _ _ ek;have kg2:k∉g2:=fun z=>by have:=f2 k z;rw [ek] at this;cases this
 have tt:TSame H2 (upd H2 k (.lst (ys++[x]))):=TSame.updL e2;have ly:=hy.length;have lm:=cU ss;refine zAF ys e2 (by rw [sizeLine_eq];omega) ((s1.trans sm).updM hk) (zBL (ys++[x]) (ss++[s]) (g++g2) aj (((hy.same sm).keep tt (Kept.upd ng)).snoc (hx.keep tt (Kept.upd kg2))) ?_ ?_ ?_ ?_ ?_)
 ·intro z;rcases zq15.mp z with z | z
  ·exact ng z
  ·exact kg2 z
 ·intro c hc;rcases zq15.mp hc with z | z
  ·exact fg c z
  ·exact s1.free (f2 c z)
 ·exact goodL_append.mpr (zAB gd hg trivial)
 ·rw [ik,cm,cm];omega
 ·rw [fz,bq,bq];omega
theorem rV(T:Txt K mg t)(D:Nat)(G_50:FnOk P w K mg base CX0 (D+3) t.f_50 t.e_50 ["_law_numbers","_law_names_here","_law_top","_law_deep"] (iG K D)):FnOk P w K mg base CX0 (D+4) t.f_50 t.e_50 ["_law_numbers","_law_names_here","_law_top","_law_deep"] (iG K (D+1)):=by
 have G_49:=@yc P w K mg base t T;refine T.d_50.F.ok sc_50 ∅ ?_;rintro cdv A outer s H vs Q E hr ⟨a,b,top,dp,rfl,ns,wd,xs,e,htop,hN,rfl,heD,ha,hxl,q⟩;refine ⟨_,
   (XSs.h
   (ai
    (ay (i:=4) sc_50.nd rfl ll (aT ac))
   (ai
    (ay (i:=5) sc_50.nd rfl ll ae)
   (ai
    (fm PassesOwn.never (av dg (yqv 5 vl) (aB aD gl T.z_len PySem.boot_len (aa (yqv 0 vl) ac)) (aA _))
     (ai
      (ay (i:=6) sc_50.nd rfl ll (ax bh (am aS (yqv 0 vl) (yqv 5 vl)) ae))
     (ai
      (ay (i:=5) sc_50.nd rfl ll (ax bw (yqv 5 vl) ae))
     (ai
      (ay (i:=7) sc_50.nd rfl ll (aB (lN rfl) gl T.z_min boot_min (aa (aB aD gl T.z_len PySem.boot_len (aa (yqv 0 vl) ac)) (aa (ax bw (yqv 5 vl) (ax aU (ax bh (yqv 6 vl) ae) ae)) ac))))
     (ai
      (ay (i:=8) sc_50.nd rfl ll (aB (lN rfl) gl T.z_min boot_min (aa (aB aD gl T.z_len PySem.boot_len (aa (yqv 0 vl) ac)) (aa (ax bw (yqv 7 vl) (ax aU (ax bh (yqv 6 vl) ae) ae)) ac))))
     (ai
      (ay (i:=9) sc_50.nd rfl ll (am aS (yqv 1 vl) (ax aU (ax bh (yqv 6 vl) ae) (aB aD gl T.z_len PySem.boot_len (aa (yqv 1 vl) ac)))))
     (ak
      (aG (bP (bS (av aR (yqv 3 vl) ae (aA _)) (cj (av sv (ax aU (am aS (yqv 0 vl) (ax cP (yqv 5 vl) ae)) ae) ae (aA _)))))
       (ak
        (aY (c5 PySem.F.plainAttrs_list PySem.F.slot_list_append PySem.F.type_list_append ba (yqv 4 vl) (aa (ap T.d_49 G_49 hr.m (aa (yqv 6 vl) (aa (yqv 1 vl) (aa (yqv 2 vl) ac))) gl) ac))))
       (ak
        (aG (av aR (ax aU (am aS (yqv 0 vl) (ax cP (yqv 5 vl) ae)) ae) ae (aA _))
         (ai
          (ay (i:=10) sc_50.nd rfl ll (ap T.d_50 G_50 hr.m (aa (bO dA (yqv 0 vl) (bM (yqv 5 vl)) (bM (yqv 7 vl))) (aa (yqv 1 vl) (aa (yqv 2 vl) (aa (ax cP (yqv 3 vl) ae) ac)))) gl))
         (ai
          (aY (c5 PySem.F.plainAttrs_list PySem.F.slot_list_append PySem.F.type_list_append ba (yqv 4 vl) (aa (aP (aa aI (aa (yqv 9 vl) (aa (yqv 10 vl) (aa (ap T.d_50 G_50 hr.m (aa (bO dA (yqv 0 vl) (bM (yqv 7 vl)) (bM (yqv 8 vl))) (aa (yqv 1 vl) (aa (yqv 2 vl) (aa (ax cP (yqv 3 vl) ae) ac)))) gl) ac))))) ac)))
         (ak
          (ay (i:=5) sc_50.nd rfl ll (yqv 8 vl)))))
         (ai
          (ay (i:=10) sc_50.nd rfl ll (ap T.d_50 G_50 hr.m (aa (bO dA (yqv 0 vl) (bM (yqv 5 vl)) (bM (yqv 7 vl))) (aa (yqv 1 vl) (aa (yqv 2 vl) (aa (ax cP (yqv 3 vl) ae) ac)))) gl))
         (ai
          (aG (av sv (ax aU (ax bh (yqv 6 vl) ae) ae) ae (aA _))
           (ak
            (aY (c5 PySem.F.plainAttrs_list PySem.F.slot_list_append PySem.F.type_list_append ba (yqv 10 vl) (aa (aP (aa aI (aa (yqv 9 vl) (aa (yqv 9 vl) (aa ae ac))))) ac))))
           aC)
         (ai
          (aY (c5 PySem.F.plainAttrs_list PySem.F.slot_list_append PySem.F.type_list_append ba (yqv 4 vl) (aa (aP (aa aI (aa (yqv 9 vl) (aa (yqv 10 vl) ac)))) ac)))
         (ak
          (ay (i:=5) sc_50.nd rfl ll (yqv 7 vl))))))))))))))))
   (ak
    (au (yqv 4 vl))))))),?_⟩
 rw [show aL _ [V.ref a,V.ref b,V.int top,V.int e]=[some (.ref a),some (.ref b),some (.int top),some (.int e),none,none,none,none,none,none,none] from rfl];simp_arith! [];intro k hk;have t1:=Same.upd (o:=.lst []) hk;refine later ?_;simp_arith! [];refine later ?_;simp_arith! [];refine ⟨fun m σ H'=>∃(i:Nat)(o6 o7 o8 o9 o10:Option V),m=xs.length-i/\i<=xs.length/\StI K H ns wd e k i H'/\σ=[some (.ref a),some (.ref b),some (.int top),some (.int e),some (.ref k),some (.int i),o6,o7,o8,o9,o10],
  (zAY _ 0 _ _ _ _ _ (zAG rfl (ce _) ⟨t1,zBL ([]) ([]) ([]) aj .nil Jo Jo trivial (ce _) (ce _)⟩ rfl)),?_⟩
 rintro m σ H1 ⟨i,o6,o7,o8,o9,o10,rfl,hi,hI,rfl⟩;have s1:=hI.1;simp_arith! [];refine zn _ (.inl (s1.seq ha)) (aF (fun h1=>?_) (fun h1=>?_))
 ·rw [zq1] at h1;refine ⟨fun σ' H'=>∃(j:Nat)(o6 o7 o8 o9 o10:Option V),i<j/\j<=xs.length/\StI K H ns wd e k j H'/\σ'=[some (.ref a),some (.ref b),some (.int top),some (.int e),some (.ref k),some (.int j),o6,o7,o8,o9,o10],?_,?_⟩
  ·rintro σ' H' ⟨j,o6,o7,o8,o9,o10,h2,h3,h4,rfl⟩;exact zn (xs.length-j) Jn (zBI j _ _ _ _ _ rfl h3 h4 rfl)
  ·have hx0:(xs.map V.int)[i]?=some (.int xs[i]):=by rw [cf,zq8 Jn];rfl
   refine zAA _ _ (s1.seq ha) (bo hx0) ?_;simp_arith! [];have hN1:=hN.same s1;obtain ⟨nm,hnm,hne⟩:=mR (ns:=ns) (x:=xs[i] / 16 / 1024) hN.pos;obtain ⟨ct,hct,c1,c2⟩:∃ct:Nat,(if (i:Int)+1+xs[i] / 16 / 16 % 5<(xs.length:Int) then (i:Int)+1+xs[i] / 16 / 16 % 5 else (xs.length:Int))=(ct:Int)/\i+1<=ct/\ct<=xs.length:=by
    have h0:0<=xs[i] / 16 / 16 % 5:=gi _ Jm
    split
    ·exact zAC ((i:Int)+1+xs[i] / 16 / 16 % 5).toNat Jn Jn Jn
    ·exact zAC xs.length rfl Jn Jn
   obtain ⟨en,hen,e1,e2⟩:∃en:Nat,(if (ct:Int)+xs[i] / 16 / 128 % 4<(xs.length:Int) then (ct:Int)+xs[i] / 16 / 128 % 4 else (xs.length:Int))=(en:Int)/\ct<=en/\en<=xs.length:=by
    have h0:0<=xs[i] / 16 / 128 % 4:=gi _ Jm
    split
    ·exact zAC ((ct:Int)+xs[i] / 16 / 128 % 4).toNat Jn Jn Jn
    ·exact zAC xs.length rfl Jn Jn
   refine ⟨CDivB.small Jm Jm,later ?_⟩;simp_arith! [];refine later ?_;simp_arith! [];refine zAC _ (.inl (s1.seq ha)) (CDivB.small Jm Jm) ?_;rw [zq1,hct];refine later ?_;simp_arith! [];refine zAC _ (.inl (s1.seq ha)) (CDivB.small Jm Jm) ?_;rw [zq1,hen];refine later ?_;simp_arith! [];refine ⟨CDivB.small Jm Jm,zAC _ (.inl hN1.at_) (by rw [zq1];have:=hN.pos;omega) (zAA _ _ hN1.at_ hne ?_)⟩;refine later ?_;simp_arith! [iB,mY];have ei1:(i:Int)+1=((i+1:Nat):Int):=by omega
   have deedC:tyV K "list" (V.ref k) H1/\jM K (xs[i] / 16) b top H1 fun x H1=>∃xs_2,H1 k=some (HO.lst xs_2)/\xs_2.length<sizeLine/\∃(j:Nat)(o6 o7 o8 o9 o10_1:Option V),i<j/\j<=xs.length/\StI K H ns wd e k j (upd H1 k (HO.lst (xs_2++[x])))/\
     [some (V.ref a),some (V.ref b),some (V.int top),some (V.int ↑e),some (V.ref k),some (V.int ((i:Int)+1)),some (V.int (xs[i] / 16)),some (V.int ct),some (V.int en),some (V.str nm),o10]=[some (V.ref a),some (V.ref b),some (V.int top),some (V.int ↑e),some (V.ref k),some (V.int ↑j),o6,o7,o8,o9,o10_1]:=by
    obtain ⟨_,ys0,_,_,ek,_⟩:=id hI;refine ⟨.inl ⟨rfl,_,SqL.of ek⟩,zAA ns wd htop hN1 fun d q0 H2 s2 hq hf hgd=>?_⟩;obtain ⟨ys,e5,l5,hI2⟩:=hI.add (j:=i+1) hk s2 (.deed hf (SqT.of hq)) Jo hgd (ce _) (by rw [Stm.many];omega) Jn;exact zAC ys e5 l5 (zBI (i+1) _ _ _ _ _ Jn Jn hI2 (by rw [ei1]))
   refine aF (fun he0=>?_) (fun he0=>?_)
   ·rw [if_pos trivial];exact deedC
   have hx1:atI (xs.map V.int) ((i:Int)+1-1)=some (.int xs[i]):=by rw [show (i:Int)+1-1=(i:Int) by omega];exact bo hx0
   refine zAA _ _ (s1.seq ha) hx1 ?_;rwa [iB,mY];obtain ⟨e',rfl⟩:∃e',e=e'+1:=⟨e-1,Jn⟩
   refine aF (fun _=>deedC) (fun h5=>zAA _ _ (s1.seq ha) hx1 ?_);clear deedC;rwa [iB,mY];have ec1:eJ (xs.map V.int) (some ((i:Int)+1)) (some (ct:Int))=((xs.take ct).drop (i+1)).map V.int:=by rw [oz Jn Jn,eh,show ((i:Int)+1).toNat=i+1 by omega,Ax,sH]
   have ec2:eJ (xs.map V.int) (some (ct:Int)) (some (en:Int))=((xs.take en).drop ct).map V.int:=by rw [oz Jn Jn,eh,eh,Ax,sH]
   have lc1:((xs.take ct).drop (i+1)).length=ct-(i+1):=by rw [AG,dE];omega
   have lc2:((xs.take en).drop ct).length=en-ct:=by rw [AG,dE];omega
   obtain ⟨_,ys0,_,_,ek,_⟩:=id hI;refine aF (fun _=>zn _ (s1.seq ha) fun p hp=>?_) (fun _=>zn _ (s1.seq ha) fun p hp=>?_)
   ·rw [ec1];have t2:=Same.upd (o:=.lst (((xs.take ct).drop (i+1)).map V.int)) hp;refine zAU ns wd _ e' htop (hN1.same t2) Jn Jn (SqL.of aj) Jn fun p1 ys1 ss1 g1 H2 s2 f1 n1 ep1 v1 gd1 d1 m1=>?_;have s12:=t2.trans s2;refine later ?_;simp_arith! [iB];refine ⟨.inl ⟨rfl,_,SqL.of (s12 _ _ ek)⟩,zn _ ((s1.trans s12).seq ha) fun p' hp'=>?_⟩;rw [ec2];have t3:=Same.upd (o:=.lst (((xs.take en).drop ct).map V.int)) hp';have s13:=s12.trans t3;refine zAU ns wd _ e' htop (hN1.same s13) Jn Jn (SqL.of aj) Jn fun p2 ys2 ss2 g2 H3 s3 f2 n2 ep2 v2 gd2 d2 m2 pq hpq=>?_;have t4:=Same.upd (o:=.tup [V.str "if",V.str nm,V.ref p1,V.ref p2]) hpq;have hfr:∀c∈p1::p2::(g1++g2),H1 c=none:=fun c hc=>by
     rcases zq5.mp hc with z | hc
     ·rw [z];exact t2.free (f1 p1 Jo)
     rcases zq5.mp hc with z | hc
     ·rw [z];exact s13.free (f2 p2 Jo)
     rcases zq15.mp hc with z | z
     ·exact t2.free (f1 c (zq9 _ z))
     ·exact s13.free (f2 c (zq9 _ z))
    obtain ⟨ys,e5,l5,hI2⟩:=hI.add (j:=en) hk ((s13.trans s3).trans t4) (.ifs (SqT.of aj) (t4 _ _ (s3 _ _ (t3 _ _ ep1))) (t4 _ _ ep2) (((v1.same t3).same s3).same t4) (v2.same t4)) hfr (zAB hnm gd1 gd2) (by rw [Stm.deep];omega) (by rw [Stm.many];omega) Jn;refine zAC ys e5 l5 (later ?_);simp_arith! [];exact zBI en _ _ _ _ _ Jn Jn hI2 rfl
   ·rw [ec1];have t2:=Same.upd (o:=.lst (((xs.take ct).drop (i+1)).map V.int)) hp;refine zAU ns wd _ e' htop (hN1.same t2) Jn Jn (SqL.of aj) Jn fun p1 ys1 ss1 g1 H2 s2 f1 n1 ep1 v1 gd1 d1 m1=>?_;refine later ?_;simp_arith! [];refine ⟨CDivB.small Jm Jm,?_⟩;have s12:=t2.trans s2;have hfr:∀c∈p1::g1,H1 c=none:=fun c hc=>t2.free (f1 c hc);have np1:p1≠k:=fun z=>by have:=hfr p1 Jo;rw [z,ek] at this;cases this
    refine aF (fun _=>⟨.inl ⟨rfl,_,SqL.of ep1⟩,fun pd hpd=>?_⟩) (fun _=>?_)
    ·have t3:=Same.upd (o:=.tup [V.str "less",V.str nm,V.str nm,V.int 1]) hpd;have lv1:=v1.length;have lm1:=cU ss1;refine zAC ys1 (t3 _ _ ep1) (by rw [sizeLine_eq];omega) ?_;have tt:TSame _ (upd (upd H2 pd (.tup [V.str "less",V.str nm,V.str nm,V.int 1])) p1 (.lst (ys1++[V.ref pd]))):=TSame.updL (t3 _ _ ep1);have s14:Same H1 (upd (upd H2 pd (.tup [V.str "less",V.str nm,V.str nm,V.int 1])) p1 (.lst (ys1++[V.ref pd]))):=(s12.trans t3).updM (hfr p1 Jo);have dgood:Deed.good ns wd (.op "less" nm (.box nm) (.word 1)):=⟨Jk,hnm,hnm,Jm,by
      have hw:=hN.w1;obtain ⟨m,hm⟩:∃m,wd.toNat=m+1:=⟨wd.toNat-1,Jn⟩
      have hp2:(0:Int)<2 ^ m:=sD Jm;rw [hm,Int.pow_succ];omega⟩
     have v2:StmsV K (upd (upd H2 pd (.tup [V.str "less",V.str nm,V.str nm,V.int 1])) p1 (.lst (ys1++[V.ref pd]))) (ys1++[V.ref pd]) (ss1++[.deed (.op "less" nm (.box nm) (.word 1))]) (g1++[]):=
      ((v1.same t3).keep tt (Kept.upd n1)).snoc (.deed (show FB.Deed.fine (.op "less" nm (.box nm) (.word 1)) from dgood.1) (tt.seqT (SqT.of aj)))
     refine later ?_;simp_arith! [];refine ⟨.inl ⟨rfl,_,SqL.of (s14 _ _ ek)⟩,fun pq hpq=>?_⟩;have t4:=Same.upd (o:=.tup [V.str "while",V.str nm,V.ref p1]) hpq;obtain ⟨ys,e5,l5,hI2⟩:=hI.add (j:=ct) hk (s14.trans t4) (.whl (SqT.of aj) (t4 _ _ aj) (v2.same t4)) (by rw [iL];exact hfr) ⟨hnm,goodL_append.mpr (zAB gd1 dgood trivial)⟩ (by rw [Stm.deep,ik,cm,cm,Stm.deep];omega) (by rw [Stm.many,fz,bq,bq,Stm.many];omega) Jn;refine zAC ys e5 l5 (later ?_);simp_arith! [];exact zBI ct _ _ _ _ _ Jn Jn hI2 rfl
    ·refine later ?_;simp_arith! [];refine ⟨.inl ⟨rfl,_,SqL.of (s12 _ _ ek)⟩,fun pq hpq=>?_⟩;have t4:=Same.upd (o:=.tup [V.str "while",V.str nm,V.ref p1]) hpq;obtain ⟨ys,e5,l5,hI2⟩:=hI.add (j:=ct) hk (s12.trans t4) (.whl (SqT.of aj) (t4 _ _ ep1) (v1.same t4)) hfr ⟨hnm,gd1⟩ (by rw [Stm.deep];omega) (by rw [Stm.many];omega) Jn;refine zAC ys e5 l5 (later ?_);simp_arith! [];exact zBI ct _ _ _ _ _ Jn Jn hI2 rfl
 ·rw [zq1] at h1;obtain ⟨_,ys,ss,g,ek,hy,ng,fg,gd,dd,my⟩:=hI;have ei:i=xs.length:=by omega
  subst ei;refine later ?_;simp_arith! [];exact q k ys ss g H1 s1 (fun c hc=>by
   rcases zq5.mp hc with z | z
   ·rw [z];exact hk
   ·exact fg c z) ng ek hy gd dd my
theorem pD(T:Txt K mg t):∀D,FnOk P w K mg base CX0 (D+3) t.f_50 t.e_50 ["_law_numbers","_law_names_here","_law_top","_law_deep"] (iG K D)
 |0=>⟨fun vs H Q E h=>by obtain ⟨_,_,_,_,_,_,_,_,_,_,_,_,h,_⟩:=h;omega,fun _ _ _ _ _ _ _ _ _ _ _ _ _ h=>by obtain ⟨_,_,_,_,_,_,_,_,_,_,_,_,h,_⟩:=h;omega⟩
 |D+1=>rV T D (pD T D)
def nU(K:W.Frag)(a:Addr)(st:Int)(m:Int)(H:Hp)(Q:VK):Prop:=∃(ns:List Int)(many:Nat),m=(many:Int)/\0<many/\many<=100/\0<=st/\st<=10/\SqL K H a (ns.map V.int)/\(∀z∈ns,Builtin.Int.intBits z<=2 ^ 20)/\∀p (fs:List Int) H',Same H H'->H p=none->H' p=some (.lst (fs.map V.int))->fs.length=many->Q (.ref p) H'
def pY(K:W.Frag):Sp:=fun vs H Q _=>∃(a:Addr)(st m:Int),vs=[.ref a,.int st,.int m]/\nU K a st m H Q
theorem BQ{a:Addr}{st m:Int}{H:Hp}{Q:VK}{E:XK}:pY K [.ref a,.int st,.int m] H Q E=nU K a st m H Q:=propext ⟨by rintro ⟨_,_,_,e,q⟩;cases e;exact q,fun q=>zAI _ _ _ rfl q⟩
theorem ye(T:Txt K mg t):FnOk P w K mg base CX0 2 t.f_51 t.e_51 ["_law_script","_law_start","_law_many"] (pY K):=by
 have G_45:=@kh P w K mg base t T;refine T.d_51.F.ok sc_51 ∅ ?_;rintro cdv A outer s H vs Q E hr ⟨a,st,m,rfl,ns,many,rfl,m0,m1,st0,st1,ha,hb,q⟩;refine ⟨_,
   (XSs.h
   (ai
    (d5 (i:=4) sc_51.nd rfl ll rfl Jl (tns:=["_law_k"]) (cns:=[]) (ci:=[]) rfl (CompSc.of Jl) (bX gl T.z_range (aa (yqv 2 vl) ac)) (fun _=>(aH (i:=1) (show List.Nodup [(".0":Str),("_law_k":Str)] by decide +kernel) rfl ll (Or.inr Jl))) (fun _=>cC) (fun _=>(ax bw (ax cO (ax cO (yqv 1 vl) (yqv 1 vl)) ae) ae)))
   (ai
    (ay (i:=5) sc_51.nd rfl ll (bO dA (yqv 0 vl) cJ (bM ae)))
   (ai
    (bu PassesOwn.never rfl (sr gl T.z_range (aa (yqv 1 vl) (aa (aB aD gl T.z_len PySem.boot_len (aa (yqv 5 vl) ac)) ac))) (aH (i:=3) sc_51.nd rfl ll)
     (ai
      (ay (i:=6) sc_51.nd rfl ll (ax aU (yqv 3 vl) (yqv 2 vl)))
     (ai
      (ay (i:=7) sc_51.nd rfl ll (ax bw (ax bw (ax cO (am aS (yqv 4 vl) (yqv 6 vl)) ae) (ax cO (ap T.d_45 G_45 hr.m (aa (am aS (yqv 5 vl) (yqv 3 vl)) (aa (yqv 3 vl) ac)) gl) ae)) (ap T.d_45 G_45 hr.m (aa (am aS (yqv 5 vl) (yqv 3 vl)) (aa (ax bw (yqv 3 vl) ae) ac)) gl)))
     (ak
      (jF (ax aU (yqv 7 vl) ae) (nG (yqv 4 vl) (yqv 6 vl) kD))))))
   (ak
    (au (yqv 4 vl))))))),?_⟩
 rw [show aL _ [V.ref a,V.int st,V.int many]=[some (.ref a),some (.int st),some (.int many),none,none,none,none,none] from rfl];rwa [fF];refine zAB Jn (by omega +splitNatSub) fun acc hacc bk=>?_;rw [eh];refine jR (fun _=>true) (fun k:Nat=>V.int ((k:Int) * k * 7919+5)) (by rw [sizeLine_eq];omega) hacc (fun i _ H1 Q' _ h=>h H1 (Same.refl _)) (fun i hi H1 Q' s1 _ h=>?_) (fun H1 s1 h1=>?_)
 ·rwa [];exact zAB (.inl ⟨Jn,by omega +splitNatSub⟩) (.inr ⟨Jm,Jm⟩) (h H1 (Same.refl _))
 obtain ⟨fs0,hfs0,lf0⟩:∃fs0:List Int,((List.range many).filter fun _=>true).map (fun k:Nat=>V.int ((k:Int) * k * 7919+5))=fs0.map V.int/\fs0.length=many:=by refine zn ((List.range many).map fun k:Nat=>(k:Int) * k * 7919+5) ?_ Jo;rw [fM,List.filter_eq_self.mpr (fun _ _=>rfl)];rfl
 rw [hfs0] at h1;refine zn _ (s1.seq ha) fun ps hps=>?_;rw [ii Jm,<- sH];have t2:=Same.upd (o:=.lst ((ns.take (Int.toNat 63)).map V.int)) hps;have hbt:∀z∈ns.take (Int.toNat 63),Builtin.Int.intBits z<=2 ^ 20:=fun z hz=>hb z (v9 hz);have lt:(ns.take (Int.toNat 63)).length<=63:=by rw [dE];exact Nat.min_le_left ..
 generalize ns.take (Int.toNat 63)=cs at t2 hbt lt ⊢;have hpa:ps≠acc:=fun z=>by rw [z,h1] at hps;cases hps
 have hps2:upd H1 ps (.lst (cs.map V.int)) ps=some (.lst (cs.map V.int)):=aj;generalize upd H1 ps (.lst (cs.map V.int))=H2 at t2 hps2 ⊢;refine zAC _ (.inl (SqL.of hps2)) (zAG Jn Jn Jn (by rw [zq1];omega +splitNatSub)) ?_;rw [zq1];refine oN (fun i σ H'=>Same H H'/\H' ps=some (.lst (cs.map V.int))/\∃(fs:List Int)(o3 o6 o7:Option V),H' acc=some (.lst (fs.map V.int))/\fs.length=many/\σ=[some (.ref a),some (.int st),some (.int many),o3,some (.ref acc),some (.ref ps),o6,o7])
  (zAB (s1.trans t2) hps2 (zBJ fs0 _ _ _ (zAB (t2 _ _ h1) lf0 rfl))) ?_ ?_
 ·rintro i σ H3 hi ⟨s3,hp3,fs,o3,o6,o7,hf3,lf,rfl⟩;rwa [fF];have hsi:∃j:Nat,st+(i:Int)=(j:Int)/\j<cs.length:=zn (st+i).toNat Jn Jn
  obtain ⟨j,hj,hjl⟩:=hsi;rw [hj];obtain ⟨mm,hmm,hml⟩:∃mm:Nat,(j:Int) % (many:Int)=(mm:Int)/\mm<many:=zn (j % many) Jn (Nat.mod_lt _ m0)
  rw [hmm];have hcj:(cs.map V.int)[j]?=some (.int cs[j]):=by rw [cf,zq8 hjl];rfl
  have hfm:(fs.map V.int)[mm]?=some (.int fs[mm]):=by rw [cf,zq8 Jn];rfl
  refine ⟨Jn,zAA _ _ (SqL.of hf3) (bo hfm) ?_⟩;rwa [fF];refine ⟨.inr ⟨Jm,Jm⟩,zAA _ _ (SqL.of hp3) (bo hcj) ?_⟩;rwa [fF];refine zAJ (hbt _ (lu hjl)) Jn Jn (.inr ⟨Jm,Jm⟩) (zAA _ _ (SqL.of hp3) (bo hcj) ?_);rwa [fF];refine zAG (hbt _ (lu hjl)) Jn Jn (zAU acc _ _ mm rfl rfl hf3 (FL.mN (by rw [zq1];omega)) (s3.updM hacc) ?_ ?_)
  ·rw [aq hpa];exact hp3
  ·refine zBJ (fs.set mm _) _ _ _ (zAB (by rw [aj,List.map_set]) (by rw [qL];exact lf) rfl)
 ·rintro σ H3 ⟨s3,hp3,fs,o3,o6,o7,hf3,lf,rfl⟩;rwa [];exact q acc fs H3 s3 hacc hf3 lf
structure DrV(K:W.Frag)(H H':Hp)(q:Addr)(wd:Int)(ins oth:List Str)(ss:List Stm)(pi po pr:Addr)(xs:List V)(g:List Addr)(many:Nat):Prop where
 tup:H' q=some (.tup [.int wd,.ref pi,.ref po,.ref pr])
 ia:H' pi=some (.lst (ins.map V.str))
 oa:H' po=some (.lst (oth.map V.str))
 ra:H' pr=some (.lst xs)
 st:StmsV K H' xs ss g
 gd:bC (ins++oth) wd ss
 dp:cm ss<=3
 mn:bq ss<=2 * many
 w1:1<=wd
 w8:wd<=8
 pos:0<(ins++oth).length
 few:(ins++oth).length<=8
 fr:∀c∈pr::g,H c=none
 nf:pr∉g
def gD(K:W.Frag)(d:Nat):Sp:=fun vs H Q _=>∃(a:Addr)(xs:List V)(ss:List Stm)(f:List Addr),vs=[.ref a]/\H a=some (.lst xs)/\StmsV K H xs ss f/\cm ss<d/\bq ss<=1000/\
 ∀p ys g H',Same H H'->H' p=some (.lst ys)->StmsV K H' ys ss g->(p::g).Nodup->(∀c∈p::g,H c=none)->Q (.ref p) H'
def iE(K:W.Frag)(d:Nat):Sp:=fun vs H Q _=>∃(x:V)(s:Stm)(f:List Addr),vs=[x]/\StmV K H x s f/\s.deep<d/\s.many<=1000/\
 ∀y g H',Same H H'->StmV K H' y s g->g.Nodup->(∀c∈g,H c=none)->Q y H'
theorem yP{d:Nat}{x:V}{H:Hp}{Q:VK}{E:XK}:iE K d [x] H Q E=∃(s:Stm)(f:List Addr),StmV K H x s f/\s.deep<d/\s.many<=1000/\∀y g H',Same H H'->StmV K H' y s g->g.Nodup->(∀c∈g,H c=none)->Q y H':=
 propext ⟨by rintro ⟨_,s,f,e,q⟩;cases e;exact zAM s f q,by rintro ⟨s,f,q⟩;exact zAI x s f rfl q⟩
theorem cr{d:Nat}{a:Addr}{H:Hp}{Q:VK}{E:XK}:gD K d [.ref a] H Q E=∃(xs:List V)(ss:List Stm)(f:List Addr),H a=some (.lst xs)/\StmsV K H xs ss f/\cm ss<d/\bq ss<=1000/\
 ∀p ys g H',Same H H'->H' p=some (.lst ys)->StmsV K H' ys ss g->(p::g).Nodup->(∀c∈p::g,H c=none)->Q (.ref p) H':=
 propext ⟨by rintro ⟨_,xs,ss,f,e,q⟩;cases e;exact zAK xs ss f q,by rintro ⟨xs,ss,f,q⟩;exact zAP a xs ss f rfl q⟩
theorem jb(T:Txt K mg t)(d:Nat)(G_11:FnOk P w K mg base CX0 (2 * d+1) t.f_11 t.e_11 ["row"] (iE K d)):FnOk P w K mg base CX0 (2 * d+2) t.f_10 t.e_10 ["rows"] (gD K d):=by
 refine T.d_10.F.ok HD ∅ ?_;rintro cdv A outer s H vs Q E hr ⟨a,xs,ss,f,rfl,ha,hx,hd,hl,q⟩;refine ⟨_,
   (XSs.h
   (ak
    (au (bT (tns:=["row"]) (cns:=[]) (ci:=[]) rfl (CompSc.of Jl) (b9 (yqv 0 vl)) (fun _=>(aH (i:=1) (show List.Nodup [(".0":Str),("row":Str)] by decide +kernel) rfl ll (Or.inr Jl))) (fun _=>cC) (fun _=>(ap T.d_11 G_11 hr.m (aa (yqv 1 vl) ac) gl)))))),?_⟩
 rw [show aL _ [V.ref a]=[some (.ref a)] from rfl];rwa [yP];refine ⟨⟨_,SqL.of ha⟩,fun acc hacc bk=>?_⟩;have lx:=hx.length;have lm:=cU ss;refine eC (xs:=xs) (fun i ys H'=>Same H H'/\H' acc=some (.lst ys)/\ys.length=i/\∃g,StmsV K H' ys (ss.take i) g/\(acc::g).Nodup/\∀c∈acc::g,H c=none) ?_ ?_ ?_ ?_
 ·exact zAG (Same.upd hacc) aj rfl (zAC ([]) .nil Jo fun c hc=>by rw [zq2.mp hc];exact hacc)
 ·intro i ys H' _ h;exact SqL.of (h.1 _ _ ha)
 ·rintro i x ys H' os hxi ho ⟨sm,hacc2,ly,g,hg,nd,fr⟩
  match os,ho with
  | [o],_=>
   rwa [yP];refine ⟨zn ([some x]) rfl rfl,?_⟩;rw [if_pos trivial];obtain ⟨s,f',hs,hsv,_⟩:=hx.get hxi;have hi:i<ss.length:=(zq10.mp hs).1;have hse:ss[i]=s:=(zq10.mp hs).2;have hds:=iS (zq4 hs);refine zAE s f' (hsv.same sm) Jn (by have:=ir (zq4 hs);omega) fun y g2 H2 s2 hy nd2 fr2=>?_;have na:acc∉g:=(zq41.mp nd).1;have na2:acc∉g2:=fun z=>by rw [fr2 acc z] at hacc2;cases hacc2
   have tt:TSame H2 (upd H2 acc (.lst (ys++[y]))):=TSame.updL (s2 _ _ hacc2);refine zAQ (s2 _ _ hacc2) (by rw [sizeLine_eq];omega) ((sm.trans s2).updM hacc) aj (by simp [ly]) (zAC (g++g2) ?_ ?_ fun c hc=>?_)
   ·rw [eN hi,hse];exact ((hg.same s2).keep tt (Kept.upd na)).snoc (hy.keep tt (Kept.upd na2))
   ·refine zq41.mpr ⟨fun z=>(zq15.mp z).elim na na2,lU (zq41.mp nd).2 nd2 fun c h1 h2=>?_⟩;obtain ⟨zs,hz⟩:=hg.tracked c h1;rw [fr2 c h2] at hz;cases hz
   ·rcases zq5.mp hc with z | z
    ·rw [z];exact hacc
    ·rcases zq15.mp z with z | z
     ·exact fr c (zq9 _ z)
     ·exact sm.free (fr2 c z)
 ·rintro ys H' ⟨sm,hacc2,ly,g,hg,nd,fr⟩;rw [lx,eO] at hg;exact q acc ys g H' sm hacc2 hg nd fr
theorem vm(T:Txt K mg t)(d:Nat)(G_10:FnOk P w K mg base CX0 (2 * d+2) t.f_10 t.e_10 ["rows"] (gD K d)):FnOk P w K mg base CX0 (2 * (d+1)+1) t.f_11 t.e_11 ["row"] (iE K (d+1)):=by
 refine T.d_11.F.ok HE ∅ ?_;rintro cdv A outer s H vs Q E hr ⟨x,s,f,rfl,hx,hd,hm,q⟩;refine ⟨_,
   (XSs.h
   (ai
    (aG (av aR (am aw (yqv 0 vl) ae) aI (aA _))
     (ak
      (au (aP (aa aI (aa (am aw (yqv 0 vl) ae) (aa (ap T.d_10 G_10 hr.m (aa (am aw (yqv 0 vl) ae) ac) gl) (aa (ap T.d_10 G_10 hr.m (aa (am aw (yqv 0 vl) ae) ac) gl) ac)))))))
     aC)
   (ai
    (aG (av aR (am aw (yqv 0 vl) ae) aI (aA _))
     (ak
      (au (aP (aa aI (aa (am aw (yqv 0 vl) ae) (aa (ap T.d_10 G_10 hr.m (aa (am aw (yqv 0 vl) ae) ac) gl) ac))))))
     aC)
   (ak
    (au (yqv 0 vl)))))),?_⟩
 rw [show aL _ [x]=[some x] from rfl]
 cases hx with
 | @deed q0 dd hf hq=>
  rwa [cr];refine jT hf hq Jk Jk Jk (zn _ rfl ?_);rw [if_neg zq6];refine jT hf hq Jk Jk Jk (zn _ rfl ?_);rw [if_neg zq6];exact q _ [] H (Same.refl H) (.deed hf hq) Jo (fun c hc=>by cases hc)
 | @ifs q0 a b n xs ys ones others f g hq ha hb h1 h2=>
  simp only [Stm.deep,Stm.many] at hd hm;rwa [cr];refine zAA _ _ hq rfl ?_;rwa [cr];refine aF (fun _=>zAA _ _ hq rfl (zAA _ _ hq rfl ?_)) (fun z=>absurd trivial z);rwa [cr];refine zAL xs ones f ha h1 Jn Jn fun p1 zs1 g1 H1 s1 e1 k1 nd1 fr1=>zAA _ _ (s1.seqT hq) rfl ?_;rwa [cr];refine zAL ys others g (s1 _ _ hb) (h2.same s1) Jn Jn fun p2 zs2 g2 H2 s2 e2 k2 nd2 fr2 p3 hp3=>?_;have s3:=Same.upd (o:=.tup [V.str "if",V.str n,V.ref p1,V.ref p2]) hp3;have s12:=s1.trans s2;refine q _ (p1::p2::(g1++g2)) _ (s12.trans s3) (.ifs (SqT.of aj) (s3 _ _ (s2 _ _ e1)) (s3 _ _ e2) ((k1.same s2).same s3) (k2.same s3)) ?_ (fun c hc=>?_)
  ·have dj:∀c∈p1::g1,c∉p2::g2:=fun c h1 h2=>by
    have ex:∃u,H1 c=some u:=by
     rcases zq5.mp h1 with z | z
     ·exact ⟨_,by rw [z];exact e1⟩
     ·obtain ⟨u,hu⟩:=k1.tracked c z;exact ⟨_,hu⟩
    obtain ⟨u,hu⟩:=ex;rw [fr2 c h2] at hu;cases hu
   have n5:=lU nd1 nd2 dj;refine (List.Perm.nodup_iff ?_).mp n5;rw [qN];exact .cons _ List.perm_middle
  ·rcases zq5.mp hc with z | z
   ·rw [z];exact fr1 p1 Jo
   rcases zq5.mp z with z | z
   ·rw [z];exact s1.free (fr2 p2 Jo)
   rcases zq15.mp z with z | z
   ·exact fr1 c (zq9 _ z)
   ·exact s1.free (fr2 c (zq9 _ z))
 | @whl q0 a n xs rows f hq ha h1=>simp only [Stm.deep,Stm.many] at hd hm;rwa [cr];refine zAA _ _ hq rfl ?_;rwa [cr];refine aF (fun z=>absurd z Jk) (fun _=>zAA _ _ hq rfl ?_);rwa [cr];refine aF (fun _=>zAA _ _ hq rfl (zAA _ _ hq rfl ?_)) (fun z=>absurd trivial z);rwa [cr];refine zAL xs rows f ha h1 Jn Jn fun p1 zs1 g1 H1 s1 e1 k1 nd1 fr1 p3 hp3=>?_;have s3:=Same.upd (o:=.tup [V.str "while",V.str n,V.ref p1]) hp3;exact q _ (p1::g1) _ (s1.trans s3) (.whl (SqT.of aj) (s3 _ _ e1) (k1.same s3)) nd1 fr1
theorem lW(T:Txt K mg t):∀d,FnOk P w K mg base CX0 (2 * d+1) t.f_11 t.e_11 ["row"] (iE K d)/\FnOk P w K mg base CX0 (2 * d+2) t.f_10 t.e_10 ["rows"] (gD K d)
 |0=>by
  have h0:FnOk P w K mg base CX0 (2 * 0+1) t.f_11 t.e_11 ["row"] (iE K 0):=⟨fun vs H Q E h=>by obtain ⟨_,_,_,_,_,h,_⟩:=h;omega,fun _ _ _ _ _ _ _ _ _ _ _ _ _ h=>by obtain ⟨_,_,_,_,_,h,_⟩:=h;omega⟩
  exact ⟨h0,jb T 0 h0⟩
 |d+1=>by have h1:=vm T d (lW T d).2;exact ⟨h1,jb T (d+1) h1⟩
def sP(K:W.Frag)(C:Addr)(d:Nat)(p:Addr)(a0:Addr)(b0:Addr)(r0:Addr)(wd:Int)(H:Hp)(Q:VK):Prop:=∃(dx:Addr)(ins:List Str)(oth:List Str)(xs:List V)(ss:List Stm)(f:List Addr),H p=some (.ins C dx [])/\
 H a0=some (.lst (ins.map V.str))/\H b0=some (.lst (oth.map V.str))/\H r0=some (.lst xs)/\StmsV K H xs ss f/\cm ss<d/\bq ss<=1000/\ins.length<=1000/\oth.length<=1000/\
 ∀a b r ys g H',SameX p H H'->ProgAt K C H' p wd ins oth ss a b r ys g->(a::b::r::g).Nodup->(∀c∈a::b::r::g,H c=none)->Q .non H'
def ux(K:W.Frag)(C:Addr)(d:Nat):Sp:=fun vs H Q _=>∃(p:Addr)(a0:Addr)(b0:Addr)(r0:Addr)(wd:Int),vs=[.ref p,.int wd,.ref a0,.ref b0,.ref r0]/\sP K C d p a0 b0 r0 wd H Q
theorem Bm(T:Txt K mg t)(d:Nat):FnOk P w K mg base CX0 (2 * d+3) t.f_9 t.e_9 ["self","width","ins","boxes","rows"] (ux K t.C_Program d):=by
 have G_10:=(@lW P w K mg base t T d).2;refine T.d_9.F.ok J6 ∅ ?_;rintro cdv A outer s H vs Q E hr ⟨p,a0,b0,r0,wd,rfl,dx,ins,oth,xs,ss,f,hp,ha,hb,hr0,hx,hd,hm,hi,ho,q⟩;refine ⟨_,
   (XSs.h
   (ai
    (bR (yqv 0 vl) (yqv 1 vl) rfl)
   (ai
    (bR (yqv 0 vl) (bL dI gl T.z_list boot_list (aa (yqv 2 vl) ac)) rfl)
   (ai
    (bR (yqv 0 vl) (ax hZ (bL dI gl T.z_list boot_list (aa (yqv 2 vl) ac)) (bL dI gl T.z_list boot_list (aa (yqv 3 vl) ac))) rfl)
   (ak
    (bR (yqv 0 vl) (ap T.d_10 G_10 hr.m (aa (yqv 4 vl) ac) gl) rfl)))))),?_⟩
 rw [show aL _ [V.ref p,V.int wd,V.ref a0,V.ref b0,V.ref r0]=[some (.ref p),some (.int wd),some (.ref a0),some (.ref b0),some (.ref r0)] from rfl];rwa [cr];have na:a0≠p:=bN ha hp (by intro z;cases z);have nb:b0≠p:=bN hb hp (by intro z;cases z);have nr:r0≠p:=bN hr0 hp (by intro z;cases z);refine fu hp T.c_Program.cl T.n_Program_width Jo ?_;rw [bV Jp,sG];obtain ⟨H1,hH1⟩:∃H1,H1=upd H p (.ins t.C_Program dx [("width",V.int wd)]):=⟨_,rfl⟩
 rw [<- hH1];have e1:H1 p=some (.ins t.C_Program dx [("width",V.int wd)]):=by rw [hH1];exact aj
 have s1:SameX p H H1:=by rw [hH1];exact SameX.upd
 have t1:TSame H H1:=by rw [hH1];exact TSame.updI hp
 rwa [cr];refine zn _ (.inl (SqL.of (s1 _ _ ha na))) fun l1 hl1=>?_;have np1:p≠l1:=ao e1 hl1;refine fu (by rw [aq np1];exact e1) T.c_Program.cl T.n_Program_ins Jo ?_;rw [bV Jl];obtain ⟨H2,hH2⟩:∃H2,H2=upd (upd H1 l1 (.lst (ins.map V.str))) p (.ins t.C_Program dx ([(("width":Str),V.int wd)]++[(("ins":Str),V.ref l1)])):=⟨_,rfl⟩
 rw [<- hH2];have e2:H2 p=some (.ins t.C_Program dx ([(("width":Str),V.int wd)]++[(("ins":Str),V.ref l1)])):=by rw [hH2];exact aj
 have s2:SameX p H1 H2:=by rw [hH2];exact (SameX.of (Same.upd hl1)).trans SameX.upd
 have k2:H2 l1=some (.lst (ins.map V.str)):=by rw [hH2,aq np1.symm];exact aj
 have t2:TSame H1 H2:=by rw [hH2];exact (Same.upd hl1).ts.trans (TSame.updI (by rw [aq np1];exact e1))
 have s02:=s1.trans s2;rwa [cr];refine zn _ (.inl (SqL.of (s02 _ _ ha na))) fun l2 hl2=>?_;have s3:=Same.upd (o:=.lst (ins.map V.str)) hl2;refine zn _ (.inl (SqL.of (s3 _ _ (s02 _ _ hb nb)))) fun l3 hl3=>?_;have s4:=s3.trans (Same.upd (o:=.lst (oth.map V.str)) hl3);refine zAE _ _ (by rw [aq (ao aj hl3)];exact aj) aj (by rw [sizeLine_eq];simp only [List.length_map];omega) fun l4 hl4=>?_;have s5:=s4.trans (Same.upd (o:=.lst (ins.map V.str++oth.map V.str)) hl4);refine fu (s5 _ _ e2) T.c_Program.cl T.n_Program_boxes Jo ?_;rw [bV Jl];have np4:p≠l4:=ao (s4 _ _ e2) hl4;obtain ⟨H3,hH3⟩:∃H3,H3=upd (upd (upd (upd H2 l2 (.lst (ins.map V.str))) l3 (.lst (oth.map V.str))) l4 (.lst (ins.map V.str++oth.map V.str))) p (.ins t.C_Program dx ([(("width":Str),V.int wd)]++[(("ins":Str),V.ref l1)]++[(("boxes":Str),V.ref l4)])):=⟨_,rfl⟩
 rw [<- hH3];have e3:H3 p=some (.ins t.C_Program dx ([(("width":Str),V.int wd)]++[(("ins":Str),V.ref l1)]++[(("boxes":Str),V.ref l4)])):=by rw [hH3];exact aj
 have s23:SameX p H2 H3:=by rw [hH3];exact (SameX.of s5).trans SameX.upd
 have k4:H3 l4=some (.lst (ins.map V.str++oth.map V.str)):=by rw [hH3,aq np4.symm];exact aj
 have t3:TSame H2 H3:=by rw [hH3];exact s5.ts.trans (TSame.updI (s5 _ _ e2))
 have s03:=s02.trans s23;rwa [cr];have pf:p∉f:=fun z=>by obtain ⟨zs,hz⟩:=hx.tracked p z;rw [hp] at hz;cases hz
 refine zAL xs ss f (s03 _ _ hr0 nr) (hx.keep ((t1.trans t2).trans t3) (fun c hc o e=>s03 c o e (fun z=>pf (by rw [<- z];exact hc)))) hd hm fun r ys g H4 s34 e4 k5 nd fr=>?_;refine fu (s34 _ _ e3) T.c_Program.cl T.n_Program_rows Jo ?_;rw [bV Jl];have pg:p∉r::g:=fun z=>by rw [fr p z] at e3;cases e3
 have npr:r≠p:=fun z=>pg (by rw [z];exact eL);have nl1:l1≠p:=np1.symm;have nl4:l4≠p:=np4.symm;have n14:l1≠l4:=ao (s4 _ _ k2) hl4;have f1:H l1=none:=s1.free e1 hl1;have f4:H l4=none:=s02.free e2 (s4.free hl4);have k3:H3 l1=some (.lst (ins.map V.str)):=s23 _ _ k2 nl1;refine q l1 l4 r ys g _ (s03.trans ((SameX.of s34).trans SameX.upd)) ⟨⟨dx,aj⟩,?_,?_,?_,?_⟩ ?_ ?_
 ·rw [aq nl1];exact s34 _ _ k3
 ·rw [aq nl4,cS];exact s34 _ _ k4
 ·rw [aq npr];exact e4
 ·exact k5.keep (TSame.updI (s34 _ _ e3)) (Kept.upd fun z=>pg (zq9 _ z))
 ·have a1:l1∉r::g:=fun z=>by rw [fr l1 z] at k3;cases k3
  have a4:l4∉r::g:=fun z=>by rw [fr l4 z] at k4;cases k4
  refine zq41.mpr ⟨fun z=>?_,zq41.mpr ⟨a4,nd⟩⟩;rcases zq5.mp z with z | z
  ·exact n14 z
  ·exact a1 z
 ·intro c hc;rcases zq5.mp hc with z | hc
  ·rw [z];exact f1
  rcases zq5.mp hc with z | hc
  ·rw [z];exact f4
  exact s03.free e3 (fr c hc)
variable {E:XK} {H H':Hp} {Q:VK} {p:Addr} {x:V}
def dG:FZ.Ed->List V
 | .stop=>[.str "stop"]
 | .go i=>[.str "go",.int i]
 | .choose n i j=>[.str "choose",.str n,.int i,.int j]
def DeedV1(K:W.Frag)(H:Hp)(x:V)(d:Deed):Prop:=∃q,x=.ref q/\SqT K H q d.vs/\d.fine
def BlkV(K:W.Frag)(N:Addr->Prop)(H:Hp)(bl:Addr)(x:V)(b:FZ.Blk):Prop:=∃q a e vs,x=.ref q/\H q=some (.tup [.ref a,.ref e])/\H a=some (.lst vs)/\Paired (DeedV1 K H) vs b.ds/\H e=some (.tup (dG b.ed))/\a≠bl/\N a
theorem DeedV1.ts{K:W.Frag}{d:Deed}(t:TSame H H')(h:DeedV1 K H x d):DeedV1 K H' x d:=let ⟨q,e,z,f⟩:=h;(zAC q e (t.seqT z) f)
theorem SameX.tsL2{ys:List V}(s:SameX p H H')(h:H p=some (.lst ys)):TSame H H':=
 ⟨fun c xs e=>s c _ e (fun z=>by rw [z,h] at e;cases e),fun c o u e=>s c _ e (fun z=>by rw [z,h] at e;cases e)⟩
theorem BlkV.sx{K:W.Frag}{N:Addr->Prop}{bl:Addr}{b:FZ.Blk}{ys:List V}(h:BlkV K N H bl x b)(s:SameX bl H H')(hb:H bl=some (.lst ys)):BlkV K N H' bl x b:=by obtain ⟨q,a,e,vs,ex,h1,h2,h3,h4,h5⟩:=h;have tt:=SameX.tsL2 s hb;exact zAX q a e vs ex (s _ _ h1 (fun z=>by rw [z,hb] at h1;cases h1)) (s _ _ h2 h5.1) (FL.Paired.imp h3 fun y _ d _ z=>z.ts tt) (s _ _ h4 (fun z=>by rw [z,hb] at h4;cases h4)) h5
structure PartAt(K:W.Frag)(C:Addr)(N:Addr->Prop)(H:Hp)(p bl:Addr)(B:List FZ.Blk):Prop where
 ob:∃dx,H p=some (.ins C dx [("blocks",.ref bl)])
 nw:∀c,H c=none->N c
 bs:∃xs,H bl=some (.lst xs)/\Paired (BlkV K N H bl) xs B
theorem PartAt.ne{K:W.Frag}{C:Addr}{N:Addr->Prop}{bl:Addr}{B:List FZ.Blk}(h:PartAt K C N H p bl B):p≠bl:=fun z=>by obtain ⟨dx,e⟩:=h.ob;obtain ⟨xs,e2,_⟩:=h.bs;rw [z,e2] at e;cases e
theorem PartAt.same{K:W.Frag}{C:Addr}{N:Addr->Prop}{bl:Addr}{B:List FZ.Blk}(h:PartAt K C N H p bl B)(s:Same H H'):PartAt K C N H' p bl B:=by obtain ⟨xs,e,q⟩:=h.bs;exact ⟨let ⟨dx,e⟩:=h.ob;⟨dx,s _ _ e⟩,fun c hc=>h.nw c (s.free hc),xs,s _ _ e,FL.Paired.imp q fun x _ b _ z=>z.sx (SameX.of s) e⟩
theorem BlkV.same{K:W.Frag}{N:Addr->Prop}{bl:Addr}{b:FZ.Blk}(h:BlkV K N H bl x b)(s:Same H H'):BlkV K N H' bl x b:=by obtain ⟨q,a,e,vs,ex,h1,h2,h3,h4,h5⟩:=h;exact zAX q a e vs ex (s _ _ h1) (s _ _ h2) (FL.Paired.imp h3 fun y _ d _ z=>z.ts s.ts) (s _ _ h4) h5
def qT(K:W.Frag)(C:Addr)(p:Addr)(x:V)(H:Hp)(Q:VK):Prop:=∃(N:Addr->Prop)(bl:Addr)(B:List FZ.Blk)(b:FZ.Blk),PartAt K C N H p bl B/\BlkV K N H bl x b/\B.length<5000/\∀H',SameX bl H H'->PartAt K C N H' p bl (B++[b])->Q (.int B.length) H'
def zE(K:W.Frag)(C:Addr):Sp:=fun vs H Q _=>∃(p:Addr)(x:V),vs=[.ref p,x]/\qT K C p x H Q
def sQ(K:W.Frag)(C:Addr)(p:Addr)(H:Hp)(Q:VK):Prop:=∃(N:Addr->Prop)(bl:Addr)(B:List FZ.Blk),PartAt K C N H p bl B/\B.length<5000/\∀H',SameX bl H H'->PartAt K C N H' p bl (B++[⟨[],.stop⟩])->Q (.int B.length) H'
def uy(K:W.Frag)(C:Addr):Sp:=fun vs H Q _=>∃p:Addr,vs=[.ref p]/\sQ K C p H Q
def xo(K:W.Frag)(C:Addr)(p:Addr)(x:V)(H:Hp)(Q:VK):Prop:=∃(N:Addr->Prop)(bl:Addr)(B:List FZ.Blk)(b:FZ.Blk),PartAt K C N H p bl B/\BlkV K N H bl x b/\B.length<5000/\∀H',SameX bl H H'->PartAt K C N H' p bl (FZ.bc b B).2->Q (.int (FZ.bc b B).1) H'
def zG(K:W.Frag)(C:Addr):Sp:=fun vs H Q _=>∃(p:Addr)(x:V),vs=[.ref p,x]/\xo K C p x H Q
theorem CO{C:Addr}:zE K C [.ref p,x] H Q E=qT K C p x H Q:=propext ⟨by rintro ⟨_,_,e,q⟩;cases e;exact q,fun q=>zAD _ _ rfl q⟩
theorem mZ{C:Addr}:uy K C [.ref p] H Q E=sQ K C p H Q:=propext ⟨by rintro ⟨_,e,q⟩;cases e;exact q,fun q=>zn _ rfl q⟩
theorem iC{C:Addr}:zG K C [.ref p,x] H Q E=xo K C p x H Q:=propext ⟨by rintro ⟨_,_,e,q⟩;cases e;exact q,fun q=>zAD _ _ rfl q⟩
theorem dD{a c:Addr}{o:HO}(h:upd H a o c=none):H c=none:=by
 unfold upd at h
 split at h
 ·cases h
 ·exact h
theorem ym(T:Txt K mg t):FnOk P w K mg base CX0 1 t.f_3 t.e_3 ["self","block"] (zE K t.C_Parting):=by
 refine T.d_3.F.ok J3 ∅ ?_;rintro cdv A outer s H vs Q E hr ⟨p,x,rfl,N,bl,B,b,hP,hb,hl,q⟩;obtain ⟨dx,ob⟩:=hP.ob;obtain ⟨xs,hbl,hxs⟩:=hP.bs;have lx:=hxs.length;refine ⟨_,
   (XSs.h
   (ai
    (aY (c5 PySem.F.plainAttrs_list PySem.F.slot_list_append PySem.F.type_list_append ba (aN (yqv 0 vl) rfl) (aa (yqv 1 vl) ac)))
   (ak
    (au (ax cP (aB aD gl T.z_len PySem.boot_len (aa (aN (yqv 0 vl) rfl) ac)) ae))))),?_⟩
 rw [show aL _ [V.ref p,x]=[some (.ref p),some x] from rfl];rwa [];refine cn ob T.c_Parting.cl T.n_Parting_blocks rfl ?_;rwa [];have sx:SameX bl H (upd H bl (.lst (xs++[x]))):=SameX.upd;refine ⟨.inl ⟨rfl,_,SqL.of hbl⟩,zAC _ hbl (by rw [sizeLine_eq];omega) ?_⟩;refine cn (sx _ _ ob hP.ne) T.c_Parting.cl T.n_Parting_blocks rfl ?_;rwa [];refine zn _ (.inl (SqL.of aj)) ?_;have z:=q _ sx ⟨⟨dx,sx _ _ ob hP.ne⟩,fun c hc=>hP.nw c (dD hc),xs++[x],aj,FL.Paired.snoc (hb.sx sx hbl) (FL.Paired.imp hxs fun y _ c _ h=>h.sx sx hbl)⟩;rw [show (((xs++[x]).length:Nat):Int)-1=(B.length:Int) by rw [zq3,cG,lx];omega];exact z
theorem gA{N:Addr->Prop}{H:Hp}{bl a e q:Addr}{ed:FZ.Ed}{vs:List V}{ds:List Deed}{ys:List V}(hbl:H bl=some (.lst ys))(hn:N a)(ha:H a=none)(hv:Paired (DeedV1 K H) vs ds)(he:upd H a (.lst vs) e=none)(hq:upd (upd H a (.lst vs)) e (.tup (dG ed)) q=none):
  Same H (upd (upd (upd H a (.lst vs)) e (.tup (dG ed))) q (.tup [.ref a,.ref e]))/\BlkV K N (upd (upd (upd H a (.lst vs)) e (.tup (dG ed))) q (.tup [.ref a,.ref e])) bl (.ref q) ⟨ds,ed⟩:=by
 have t1:=Same.upd (o:=.lst vs) ha;have t2:=Same.upd (o:=.tup (dG ed)) he;have t3:=Same.upd (o:=.tup [V.ref a,V.ref e]) hq;have s:=(t1.trans t2).trans t3;exact ⟨s,zAU q a e vs rfl aj (t3 _ _ (t2 _ _ aj)) (FL.Paired.imp hv fun y _ d _ z=>z.ts s.ts) (t3 _ _ aj) (ao hbl ha).symm hn⟩
theorem tS(T:Txt K mg t):FnOk P w K mg base CX0 2 t.f_2 t.e_2 ["self"] (uy K t.C_Parting):=by
 have G_3:=@ym P w K mg base t T;refine T.d_2.F.ok J0 ∅ ?_;rintro cdv A outer s H vs Q E hr ⟨p,rfl,N,bl,B,hP,hl,q⟩;obtain ⟨dx,ob⟩:=hP.ob;obtain ⟨xs,hbl,hxs⟩:=hP.bs;refine ⟨_,
   (XSs.h
   (ak
    (au (aX T.c_Parting.cl T.d_3 G_3 hr.m (yqv 0 vl) (aa (aP (aa (aT ac) (aa (aP (aa aI ac)) ac))) ac))))),?_⟩
 rw [show aL _ [V.ref p]=[some (.ref p)] from rfl];rwa [CO];refine bB ob rfl ?_;intro a ha e he q0 hq0;obtain ⟨sm,hb⟩:=gA (K:=K) (ed:=.stop) (ds:=[]) hbl (hP.nw _ ha) ha .nil he hq0;exact zAR N bl B _ (hP.same sm) hb hl fun H' sx hP'=>q H' ((SameX.of sm).trans sx) hP'
theorem zr{n:Nat}{a b:Addr}{vs:List V}(ha:H a=some (.lst vs))(hb:H b=some (.lst [])):Rq K H n (.ref a) (.ref b) (decide (vs=[])):=by
 cases vs with
 |nil=>
  have z:=Rq.lists (n:=n) (fun _=>true) (SqL.of (K:=K) ha) (SqL.of hb) rfl fun j x y hx _=>by simp at hx
  exact z
 |cons x r=>rw [decide_eq_false (by intro z;cases z)];exact .lens (SqL.of ha) (SqL.of hb) Jo
theorem rC(T:Txt K mg t):FnOk P w K mg base CX0 2 t.f_4 t.e_4 ["self","block"] (zG K t.C_Parting):=by
 have G_3:=@ym P w K mg base t T;refine T.d_4.F.ok J4 ∅ ?_;rintro cdv A outer s H vs Q E hr ⟨p,x,rfl,N,bl,B,b,hP,hb,hl,q⟩;obtain ⟨dx,ob⟩:=hP.ob;obtain ⟨qb,a,e,vs,rfl,h1,h2,h3,h4,h5⟩:=id hb;refine ⟨_,
   (XSs.h
   (ai
    (aG (bP (dR (av (mV (n:=0) (vB Jm hr)) (am aw (yqv 1 vl) ae) (aT ac) (aA _)) (df (av aR (am aw (am aw (yqv 1 vl) ae) ae) aI (aA _)))))
     (ak
      (au (am aw (am aw (yqv 1 vl) ae) ae)))
     aC)
   (ak
    (au (aX T.c_Parting.cl T.d_3 G_3 hr.m (yqv 0 vl) (aa (yqv 1 vl) ac)))))),?_⟩
 rw [show aL _ [V.ref p,V.ref qb]=[some (.ref p),some (.ref qb)] from rfl];rwa [CO];refine zAA _ _ (SqT.of h1) rfl fun p0 hp0=>?_;have t0:=Same.upd (o:=.lst []) hp0;refine zn _ (zr (t0 _ _ h2) aj) (zn _ rfl ?_);have lv:=h3.length;have num:(FZ.bc b B)=(B.length,B++[b])->jH t.C_Parting (Str.ofString "numbered") (V.ref p) (upd H p0 (HO.lst [])) (qT K t.C_Parting p (V.ref qb) (upd H p0 (HO.lst [])) Q):=fun ew=>by refine bB (t0 _ _ ob) rfl (zAR N bl B b (hP.same t0) (hb.same t0) hl fun H' sx hP'=>?_);rw [ew] at q;exact q H' ((SameX.of t0).trans sx) hP'
 obtain ⟨ds,ed⟩:=b
 cases ds with
 |cons d r=>
  have hne:¬vs=[]:=fun z=>by rw [z] at lv;simp at lv
  rw [decide_eq_false hne,if_neg zq6];exact num rfl
 |nil=>
  have hnil:vs=[]:=zq64.mp lv;rw [decide_eq_true hnil,if_pos rfl];have h40:=t0 _ _ h4;refine zAA _ _ (SqT.of (t0 _ _ h1)) rfl ?_
  cases ed with
  |stop=>
   rwa [];refine zAE _ _ (SqT.of h40) rfl rfl (zn _ rfl ?_);rw [decide_eq_false (by intro z;exact absurd (V.str.inj z) Jk),if_neg zq6];exact num rfl
  |go i=>
   rwa [];refine zAE _ _ (SqT.of h40) rfl rfl (zn _ rfl ?_);rw [decide_eq_true rfl,if_pos rfl];refine zAA _ _ (SqT.of (t0 _ _ h1)) rfl ?_;rwa [];exact zAA _ _ (SqT.of h40) rfl (q _ (SameX.of t0) (hP.same t0))
  |choose n i j=>rwa [];refine zAE _ _ (SqT.of h40) rfl rfl (zn _ rfl ?_);rw [decide_eq_false (by intro z;exact absurd (V.str.inj z) Jk),if_neg zq6];exact num rfl
variable {H:Hp} {f:List Addr} {i:Nat} {ss:List Stm} {x:V}
def sU(K:W.Frag)(C:Addr)(d:Nat)(p a:Addr)(x:V)(H:Hp)(Q:VK):Prop:=∃(N:Addr->Prop)(bl:Addr)(B:List FZ.Blk)(b:FZ.Blk)(rs:List V)(ss:List Stm)(f:List Addr),PartAt K C N H p bl B/\BlkV K N H bl x b/\H a=some (.lst rs)/\StmsV K H rs ss f/\a≠bl/\bl∉f/\cm ss<d/\B.length+3 * bq ss<4000/\b.ds.length<=8/\
 ∀y H',SameX bl H H'->PartAt K C N H' p bl (FZ.aV ss b B).2->BlkV K N H' bl y (FZ.aV ss b B).1->(FZ.aV ss b B).1.ds.length<=8->Q y H'
def iF(K:W.Frag)(C:Addr)(d:Nat):Sp:=fun vs H Q _=>∃(p a:Addr)(x:V),vs=[.ref p,.ref a,x]/\sU K C d p a x H Q
def sY(K:W.Frag)(C:Addr)(d:Nat)(ok:Stm->Prop)(p:Addr)(r x:V)(H:Hp)(Q:VK):Prop:=∃(N:Addr->Prop)(bl:Addr)(B:List FZ.Blk)(b:FZ.Blk)(st:Stm)(f:List Addr),PartAt K C N H p bl B/\BlkV K N H bl x b/\StmV K H r st f/\ok st/\bl∉f/\st.deep<d/\B.length+3 * st.many<4000/\b.ds.length<=8/\
 ∀y H',SameX bl H H'->PartAt K C N H' p bl (FZ.bZ st b B).2->BlkV K N H' bl y (FZ.bZ st b B).1->(FZ.bZ st b B).1.ds.length<=8->Q y H'
def dQ(K:W.Frag)(C:Addr)(d:Nat)(ok:Stm->Prop):Sp:=fun vs H Q _=>∃(p:Addr)(r x:V),vs=[.ref p,r,x]/\sY K C d ok p r x H Q
def Fj:Stm->Prop
 | .ifs _ _ _=>True
 |_=>False
def Fk:Stm->Prop
 | .whl _ _=>True
 |_=>False
theorem g7{C p a:Addr}{d:Nat}{Q:VK}{E:XK}:iF K C d [.ref p,.ref a,x] H Q E=sU K C d p a x H Q:=propext ⟨by rintro ⟨_,_,_,e,q⟩;cases e;exact q,fun q=>zAI _ _ _ rfl q⟩
theorem fG{C p:Addr}{d:Nat}{ok:Stm->Prop}{r:V}{Q:VK}{E:XK}:dQ K C d ok [.ref p,r,x] H Q E=sY K C d ok p r x H Q:=propext ⟨by rintro ⟨_,_,_,e,q⟩;cases e;exact q,fun q=>zAI _ _ _ rfl q⟩
theorem gj{s:Stm}(h:ss.reverse[i]?=some s):ss.drop (ss.length-(i+1))=s::ss.drop (ss.length-i):=by
 obtain ⟨hi,e⟩:=zq10.mp h;rw [AI] at hi;rw [List.getElem_reverse] at e;have h1:ss.length-(i+1)<ss.length:=by omega
 rw [D7 h1,show ss.length-(i+1)+1=ss.length-i by omega];congr 1;rw [<- e];congr 1;omega
theorem zJ{xs:List V}(h:StmsV K H xs ss f)(hx:xs.reverse[i]?=some x):∃s g,ss.reverse[i]?=some s/\s∈ss/\StmV K H x s g/\∀c∈g,c∈f:=by have lx:=h.length;obtain ⟨hi,e⟩:=zq10.mp hx;rw [AI] at hi;rw [List.getElem_reverse] at e;obtain ⟨s,g,h1,h2,h3⟩:=h.get (i:=xs.length-1-i) (x:=x) (by rw [zq8 Jn,e]);refine zAE s g ?_ (zq4 h1) h2 h3;rw [An Jn,<- lx];exact h1
theorem oQ{ns:List Str}{wd:Int}:∀{ss:List Stm} {s:Stm},bC ns wd ss->s∈ss->s.good ns wd
 |_::_,_,h,hm=>by
  rcases zq5.mp hm with z | z
  ·subst z;exact h.1
  ·exact oQ h.2 z
theorem EU{H':Hp}{bl:Addr}{ys:List V}{st:Stm}(h:StmV K H x st f)(s:SameX bl H H')(hb:H bl=some (.lst ys))(hf:bl∉f):StmV K H' x st f:=
 h.keep (SameX.tsL2 s hb) fun a ha o e=>s a o e (fun z=>hf (z ▸ ha))
theorem nz{H':Hp}{bl:Addr}{xs ys:List V}(h:StmsV K H xs ss f)(s:SameX bl H H')(hb:H bl=some (.lst ys))(hf:bl∉f):StmsV K H' xs ss f:=
 h.keep (SameX.tsL2 s hb) fun a ha o e=>s a o e (fun z=>hf (z ▸ ha))
theorem vQ{s:Stm}(h:ss.reverse[i]?=some s):s.many+bq (ss.drop (ss.length-i))<=bq ss:=by
 have e:=congrArg bq (gj h);rw [bq] at e;have e2:bq ss=bq (ss.take (ss.length-(i+1)))+bq (ss.drop (ss.length-(i+1))):=by rw [<- fz,vd]
 omega
theorem lY(T:Txt K mg t)(d:Nat)(G_6:FnOk P w K mg base CX0 (3 * d+3) t.f_6 t.e_6 ["self","row","block"] (dQ K t.C_Parting d fun _=>True)):FnOk P w K mg base CX0 (3 * d+4) t.f_5 t.e_5 ["self","rows","block"] (iF K t.C_Parting d):=by
 refine T.d_5.F.ok sc_5 ∅ ?_;rintro cdv A outer s H vs Q E hr ⟨p,a,x,rfl,N,bl,B,b,rs,ss,f,hP,hb,ha,hx,nab,nbf,hd,hm,h8,q⟩;have lx:=hx.length;obtain ⟨xs0,hbl0,_⟩:=hP.bs;refine ⟨_,
   (XSs.h
   (ai
    (bu PassesOwn.never rfl (Cm T.z_reversed (aa (yqv 1 vl) ac) gl) (aH (i:=3) sc_5.nd rfl ll)
     (ak
      (ay (i:=2) sc_5.nd rfl ll (aX T.c_Parting.cl T.d_6 G_6 hr.m (yqv 0 vl) (aa (yqv 3 vl) (aa (yqv 2 vl) ac))))))
   (ak
    (au (yqv 2 vl))))),?_⟩
 rw [show aL _ [V.ref p,V.ref a,x]=[some (.ref p),some (.ref a),some x,none] from rfl];rwa [fG];refine zn rs (SqL.of ha) ?_;refine Dm (fun i σ H'=>SameX bl H H'/\∃y o3,PartAt K t.C_Parting N H' p bl (FZ.aV (ss.drop (ss.length-i)) b B).2/\BlkV K N H' bl y (FZ.aV (ss.drop (ss.length-i)) b B).1/\(FZ.aV (ss.drop (ss.length-i)) b B).1.ds.length<=8/\σ=[some (.ref p),some (.ref a),some y,o3])
  ⟨SameX.refl,zAE x none ?_ ?_ ?_ rfl⟩ (fun i σ H' _ h=>SqL.of (h.1 _ _ ha nab)) ?_ ?_
 ·rw [x3,AM,FZ.aV];exact hP
 ·rw [x3,AM,FZ.aV];exact hb
 ·rw [x3,AM,FZ.aV];exact h8
 ·rintro i r σ H1 hri ⟨s1,y,o3,hP1,hb1,l1,rfl⟩;rwa [fG];obtain ⟨st,g',hst,hms,hv,hsub⟩:=zJ hx hri;have hdm:=iS hms;have hmd:=vQ hst;have hol:=FZ.cK (ss.drop (ss.length-i)) b B;obtain ⟨dx,ob1⟩:=hP1.ob;refine bB ob1 rfl ?_;refine zAZ N bl _ _ st g' (zBB hP1 hb1 (EU hv s1 hbl0 (fun z=>nbf (hsub bl z))) trivial (fun z=>nbf (hsub bl z)) Jn Jn l1 fun y2 H2 s2 hP2 hb2 l2=>?_);refine ⟨s1.trans s2,zAE y2 _ ?_ ?_ ?_ rfl⟩
  ·rw [gj hst,FZ.aV];exact hP2
  ·rw [gj hst,FZ.aV];exact hb2
  ·rw [gj hst,FZ.aV];exact l2
 ·rintro σ H1 ⟨s1,y,o3,hP1,hb1,l1,rfl⟩;rw [lx,nL,uZ] at hP1 hb1 l1;rwa [];exact q y H1 s1 hP1 hb1 l1
theorem xp{N:Addr->Prop}{H:Hp}{bl a e q:Addr}{ed:FZ.Ed}{vs:List V}{ds:List Deed}(ha:H a=some (.lst vs))(nab:a≠bl)(hn:N a)(hv:Paired (DeedV1 K H) vs ds)(he:H e=none)(hq:upd H e (.tup (dG ed)) q=none):
  Same H (upd (upd H e (.tup (dG ed))) q (.tup [.ref a,.ref e]))/\BlkV K N (upd (upd H e (.tup (dG ed))) q (.tup [.ref a,.ref e])) bl (.ref q) ⟨ds,ed⟩:=by
 have t2:=Same.upd (o:=.tup (dG ed)) he;have t3:=Same.upd (o:=.tup [V.ref a,V.ref e]) hq;have s:=t2.trans t3;exact ⟨s,zAU q a e vs rfl aj (t3 _ _ (t2 _ _ ha)) (FL.Paired.imp hv fun y _ d _ z=>z.ts s.ts) (t3 _ _ aj) nab hn⟩
theorem Ba(T:Txt K mg t)(d:Nat)(G_5:FnOk P w K mg base CX0 (3 * d+4) t.f_5 t.e_5 ["self","rows","block"] (iF K t.C_Parting d)):FnOk P w K mg base CX0 (3 * d+5) t.f_7 t.e_7 ["self","row","block"] (dQ K t.C_Parting (d+1) Fj):=by
 have G_4:=@rC P w K mg base t T;refine T.d_7.F.ok sc_7 ∅ ?_;rintro cdv A outer s H vs Q E hr ⟨p,r,x,rfl,N,bl,B,b,st,f,hP,hb,hv,hok,nbf,hd,hm,h8,q⟩;refine ⟨_,
   (XSs.h
   (ai
    (ay (i:=3) sc_7.nd rfl ll (aP (aa (aT ac) (aa (aP (aa aI (aa (aX T.c_Parting.cl T.d_4 G_4 hr.m (yqv 0 vl) (aa (yqv 2 vl) ac)) ac))) ac))))
   (ai
    (ay (i:=4) sc_7.nd rfl ll (aX T.c_Parting.cl T.d_4 G_4 hr.m (yqv 0 vl) (aa (aX T.c_Parting.cl T.d_5 G_5 hr.m (yqv 0 vl) (aa (am aw (yqv 1 vl) ae) (aa (yqv 3 vl) ac))) ac)))
   (ai
    (ay (i:=5) sc_7.nd rfl ll (aX T.c_Parting.cl T.d_4 G_4 hr.m (yqv 0 vl) (aa (aX T.c_Parting.cl T.d_5 G_5 hr.m (yqv 0 vl) (aa (am aw (yqv 1 vl) ae) (aa (yqv 3 vl) ac))) ac)))
   (ak
    (au (aP (aa (aT ac) (aa (aP (aa aI (aa (am aw (yqv 1 vl) ae) (aa (yqv 4 vl) (aa (yqv 5 vl) ac))))) ac))))))))),?_⟩
 rw [show aL _ [V.ref p,r,x]=[some (.ref p),some r,some x,none,none,none] from rfl]
 cases hv with
 | @deed q0 dd hf hq=>exact absurd hok id
 | @whl q0 a1 n xs1 rows f1 hq ha1 h1=>exact absurd hok id
 | @ifs q0 a1 c1 n xs1 ys1 ones others f1 g1 hq ha1 hc1 h1 h2=>simp only [Stm.deep,Stm.many] at hd hm;obtain ⟨xs0,hbl0,_⟩:=hP.bs;have na1:a1≠bl:=fun z=>nbf (by rw [<- z];simp);have nc1:c1≠bl:=fun z=>nbf (by rw [<- z];simp);have nf1:bl∉f1:=fun z=>nbf (by simp [z]);have ng1:bl∉g1:=fun z=>nbf (by simp [z]);obtain ⟨dx,ob⟩:=hP.ob;rw [FZ.bZ] at q;dsimp only at q;rwa [iC,g7];intro a0 ha0;have t0:=Same.upd (o:=.lst []) ha0;have nab0:a0≠bl:=(ao hbl0 ha0).symm;refine bB (t0 _ _ ob) rfl (zAR N bl B b (hP.same t0) (hb.same t0) Jn fun H1 sx1 hP1=>?_);have gw:=FZ.bg b B;generalize FZ.bc b B=w0 at *;have ea0:H1 a0=some (.lst []):=sx1 _ _ aj nab0;have sx01:=(SameX.of (p:=bl) t0).trans sx1;intro e0 he0 q1 hq1;obtain ⟨sb,hbb⟩:=xp (K:=K) (ed:=.go w0.1) (ds:=[]) ea0 nab0 (hP.nw _ ha0) .nil he0 hq1;have hPG:=hP1.same sb;have sxG:=sx01.trans (SameX.of (p:=bl) sb);rw [show dG (.go w0.1)=[V.str "go",V.int w0.1] from rfl] at sb hbb hPG sxG;generalize upd (upd H1 e0 _) q1 _=G at sb hbb hPG sxG ⊢;obtain ⟨dxG,obG⟩:=hPG.ob;obtain ⟨xsG,hblG,_⟩:=hPG.bs;refine bB obG rfl (bB obG rfl (zAA _ _ ((SameX.tsL2 sxG hbl0).seqT hq) rfl ?_));rwa [g7];have lo1:=FZ.cK ones ⟨[],.go w0.1⟩ w0.2;refine zBM N bl w0.2 ⟨[],.go w0.1⟩ xs1 ones f1 hPG hbb (sxG _ _ ha1 na1) (nz h1 sxG hbl0 nf1) na1 nf1 Jn Jn (ce _) fun y2 H3 s3 hP3 hb3 l3=>?_;generalize FZ.aV ones ⟨[],.go w0.1⟩ w0.2=o at *;have gw2:=FZ.bg o.1 o.2;refine zAR N bl _ _ hP3 hb3 Jn fun H4 s4 hP4=>?_;generalize FZ.bc o.1 o.2=wo at *;have sxG4:=s3.trans s4;have sx4:=sxG.trans sxG4;obtain ⟨dx4,ob4⟩:=hP4.ob;obtain ⟨xs4,hbl4,_⟩:=hP4.bs;refine bB ob4 rfl (bB ob4 rfl (zAA _ _ ((SameX.tsL2 sx4 hbl0).seqT hq) rfl ?_));rwa [g7];have lo2:=FZ.cK others ⟨[],.go w0.1⟩ wo.2;refine zBM N bl wo.2 ⟨[],.go w0.1⟩ ys1 others g1 hP4 (hbb.sx sxG4 hblG) (sx4 _ _ hc1 nc1) (nz h2 sx4 hbl0 ng1) nc1 ng1 Jn Jn (ce _) fun y5 H5 s5 hP5 hb5 l5=>?_;generalize FZ.aV others ⟨[],.go w0.1⟩ wo.2=o2 at *;refine zAR N bl _ _ hP5 hb5 Jn fun H6 s6 hP6=>?_;generalize FZ.bc o2.1 o2.2=wp at *;have sx6:=sx4.trans (s5.trans s6);obtain ⟨xs6,hbl6,_⟩:=hP6.bs;intro a7 ha7;have t7:=Same.upd (o:=.lst []) ha7;refine zAA _ _ ((SameX.tsL2 sx6 hbl0 |>.trans t7.ts).seqT hq) rfl fun e7 he7 q7 hq7=>?_;obtain ⟨sm,hb7⟩:=gA (K:=K) (ed:=.choose n wo.1 wp.1) (ds:=[]) hbl6 (hP6.nw _ ha7) ha7 .nil he7 hq7;exact q _ _ (sx6.trans (SameX.of sm)) (hP6.same sm) hb7 (ce _)
theorem Cg(T:Txt K mg t)(d:Nat)(G_5:FnOk P w K mg base CX0 (3 * d+4) t.f_5 t.e_5 ["self","rows","block"] (iF K t.C_Parting d)):FnOk P w K mg base CX0 (3 * d+5) t.f_8 t.e_8 ["self","row","block"] (dQ K t.C_Parting (d+1) Fk):=by
 have G_4:=@rC P w K mg base t T;have G_2:=@tS P w K mg base t T;refine T.d_8.F.ok sc_8 ∅ ?_;rintro cdv A outer s H vs Q E hr ⟨p,r,x,rfl,N,bl,B,b,st,f,hP,hb,hv,hok,nbf,hd,hm,h8,q⟩;refine ⟨_,
   (XSs.h
   (ai
    (ay (i:=3) sc_8.nd rfl ll (aX T.c_Parting.cl T.d_4 G_4 hr.m (yqv 0 vl) (aa (yqv 2 vl) ac)))
   (ai
    (ay (i:=4) sc_8.nd rfl ll (dw T.c_Parting.cl T.d_2 G_2 hr.m (yqv 0 vl)))
   (ai
    (ay (i:=5) sc_8.nd rfl ll (aX T.c_Parting.cl T.d_4 G_4 hr.m (yqv 0 vl) (aa (aX T.c_Parting.cl T.d_5 G_5 hr.m (yqv 0 vl) (aa (am aw (yqv 1 vl) ae) (aa (aP (aa (aT ac) (aa (aP (aa aI (aa (yqv 4 vl) ac))) ac))) ac))) ac)))
   (ai
    (jF (aP (aa (aT ac) (aa (aP (aa aI (aa (am aw (yqv 1 vl) ae) (aa (yqv 5 vl) (aa (yqv 3 vl) ac))))) ac))) (nG (aN (yqv 0 vl) rfl) (yqv 4 vl) kD))
   (ak
    (au (aP (aa (aT ac) (aa (aP (aa aI (aa (yqv 4 vl) ac))) ac)))))))))),?_⟩
 rw [show aL _ [V.ref p,r,x]=[some (.ref p),some r,some x,none,none,none] from rfl]
 cases hv with
 | @deed q0 dd hf hq=>exact absurd hok id
 | @ifs q0 a1 c1 n xs1 ys1 ones others f1 g1 hq ha1 hc1 h1 h2=>exact absurd hok id
 | @whl q0 a1 n xs1 rows f1 hq ha1 h1=>
  simp only [Stm.deep,Stm.many] at hd hm;obtain ⟨xs0,hbl0,_⟩:=hP.bs;have na1:a1≠bl:=fun z=>nbf (by rw [<- z];simp);have nf1:bl∉f1:=fun z=>nbf (by simp [z]);obtain ⟨dx,ob⟩:=hP.ob;rw [FZ.bZ] at q;dsimp only at q;rwa [iC,g7,mZ];refine bB ob rfl (zAR N bl B b hP hb Jn fun H1 sx1 hP1=>?_);have gw:=FZ.bg b B;generalize FZ.bc b B=w0 at *;obtain ⟨dx1,ob1⟩:=hP1.ob;refine bB ob1 rfl ?_;refine zAO N bl w0.2 hP1 Jn fun H2 sx2 hP2=>?_;have sx02:=sx1.trans sx2;obtain ⟨dx2,ob2⟩:=hP2.ob;obtain ⟨xs2,hbl2,_⟩:=hP2.bs;refine bB ob2 rfl (bB ob2 rfl (zAA _ _ ((SameX.tsL2 sx02 hbl0).seqT hq) rfl fun a3 ha3 e3 he3 q3 hq3=>?_));obtain ⟨sm,hb3⟩:=gA (K:=K) (ed:=.go w0.2.length) (ds:=[]) hbl2 (hP2.nw _ ha3) ha3 .nil he3 hq3;rw [show dG (.go w0.2.length)=[V.str "go",V.int w0.2.length] from rfl] at sm hb3;have hP3:=hP2.same sm;have sx03:=sx02.trans (SameX.of (p:=bl) sm);rwa [g7];have lo:=FZ.cK rows ⟨[],.go w0.2.length⟩ (w0.2++[⟨[],.stop⟩]);have go:=FZ.bG rows ⟨[],.go w0.2.length⟩ (w0.2++[⟨[],.stop⟩]);rw [zq3,cG] at lo go;refine zBM N bl (w0.2++[(⟨[],.stop⟩:FZ.Blk)]) ⟨[],.go w0.2.length⟩ xs1 rows f1 hP3 hb3 (sx03 _ _ ha1 na1) (nz h1 sx03 hbl0 nf1) na1 nf1 Jn (by rw [zq3,cG];omega) (ce _) fun y4 H4 s4 hP4 hb4 l4=>?_;generalize FZ.aV rows ⟨[],.go w0.2.length⟩ (w0.2++[⟨[],.stop⟩])=o at *;have gw2:=FZ.bg o.1 o.2;refine zAR N bl _ _ hP4 hb4 Jn fun H5 s5 hP5=>?_;generalize FZ.bc o.1 o.2=wo at *;have sx05:=sx03.trans (s4.trans s5);intro a6 ha6;have t6:=Same.upd (o:=.lst []) ha6;refine zAA _ _ ((SameX.tsL2 sx05 hbl0 |>.trans t6.ts).seqT hq) rfl fun e6 he6 q6 hq6=>?_;obtain ⟨xs5,hbl5,_⟩:=hP5.bs;obtain ⟨sm6,hb6⟩:=gA (K:=K) (ed:=.choose n wo.1 w0.1) (ds:=[]) hbl5 (hP5.nw _ ha6) ha6 .nil he6 hq6;rw [show dG (.choose n wo.1 w0.1)=[V.str "choose",V.str n,V.int wo.1,V.int w0.1] from rfl] at sm6 hb6;have hP6:=hP5.same sm6;have sx06:=sx05.trans (SameX.of (p:=bl) sm6);generalize upd (upd (upd H5 a6 _) e6 _) q6 _=G at sm6 hb6 hP6 sx06 ⊢;obtain ⟨dx6,ob6⟩:=hP6.ob;obtain ⟨xs6,hbl6,hxs6⟩:=hP6.bs;have lx6:=hxs6.length;refine cn ob6 T.c_Parting.cl T.n_Parting_blocks rfl ?_;have sx67:SameX bl G (upd G bl (.lst (xs6.set w0.2.length (.ref q6)))):=SameX.upd;refine zAN bl xs6 _ w0.2.length rfl rfl hbl6 (FL.mN Jn) ?_;have hP7:PartAt K t.C_Parting N (upd G bl (.lst (xs6.set w0.2.length (.ref q6)))) p bl (wo.2.set w0.2.length ⟨[],.choose n wo.1 w0.1⟩):=
   ⟨⟨dx6,sx67 _ _ ob6 hP6.ne⟩,fun c hc=>hP6.nw c (dD hc),_,aj,FL.Paired.put (hb6.sx sx67 hbl6) _ (FL.Paired.imp hxs6 fun y _ c _ h=>h.sx sx67 hbl6)⟩
  have sx07:=sx06.trans sx67;generalize upd G bl _=G2 at hP7 sx07 ⊢;intro a8 ha8 e8 he8 q8 hq8;obtain ⟨xs7,hbl7,_⟩:=hP7.bs;obtain ⟨sm8,hb8⟩:=gA (K:=K) (ed:=.go w0.2.length) (ds:=[]) hbl7 (hP7.nw _ ha8) ha8 .nil he8 hq8;exact q _ _ (sx07.trans (SameX.of sm8)) (hP7.same sm8) hb8 (ce _)
theorem zp(T:Txt K mg t)(d:Nat)(G_7:FnOk P w K mg base CX0 (3 * d+5) t.f_7 t.e_7 ["self","row","block"] (dQ K t.C_Parting (d+1) Fj)) (G_8:FnOk P w K mg base CX0 (3 * d+5) t.f_8 t.e_8 ["self","row","block"] (dQ K t.C_Parting (d+1) Fk)):FnOk P w K mg base CX0 (3 * (d+1)+3) t.f_6 t.e_6 ["self","row","block"] (dQ K t.C_Parting (d+1) fun _=>True):=by
 have G_4:=@rC P w K mg base t T;refine T.d_6.F.ok J5 ∅ ?_;rintro cdv A outer s H vs Q E hr ⟨p,r,x,rfl,N,bl,B,b,st,f,hP,hb,hv,hok,nbf,hd,hm,h8,q⟩;obtain ⟨dx,ob⟩:=hP.ob;obtain ⟨xs0,hbl0,_⟩:=hP.bs;refine ⟨_,
   (XSs.h
   (ai
    (aG (av aR (am aw (yqv 1 vl) ae) aI (aA _))
     (ak
      (au (aX T.c_Parting.cl T.d_7 G_7 hr.m (yqv 0 vl) (aa (yqv 1 vl) (aa (yqv 2 vl) ac)))))
     aC)
   (ai
    (aG (av aR (am aw (yqv 1 vl) ae) aI (aA _))
     (ak
      (au (aX T.c_Parting.cl T.d_8 G_8 hr.m (yqv 0 vl) (aa (yqv 1 vl) (aa (yqv 2 vl) ac)))))
     aC)
   (ai
    (aG (av aR (aB aD gl T.z_len PySem.boot_len (aa (am aw (yqv 2 vl) ae) ac)) (A8 (v:=.int 8) gl T.g_MOST_DEEDS ⟨_,rfl⟩) (aA _))
     (ak
      (au (aP (aa (aT (aa (yqv 1 vl) ac)) (aa (aP (aa aI (aa (aX T.c_Parting.cl T.d_4 G_4 hr.m (yqv 0 vl) (aa (yqv 2 vl) ac)) ac))) ac)))))
     aC)
   (ak
    (au (aP (aa (ax hZ (aT (aa (yqv 1 vl) ac)) (am aw (yqv 2 vl) ae)) (aa (am aw (yqv 2 vl) ae) ac))))))))),?_⟩
 rw [show aL _ [V.ref p,r,x]=[some (.ref p),some r,some x] from rfl];have hv0:=hv
 cases hv with
 | @ifs q0 a1 c1 n xs1 ys1 ones others f1 g1 hq ha1 hc1 h1 h2=>
  rwa [fG,iC];refine zAA _ _ hq rfl ?_;rwa [fG,iC];refine aF (fun _=>bB ob rfl (zAZ N bl B b _ _ (zBB hP hb hv0 trivial nbf hd hm h8 q))) (fun z=>absurd trivial z)
 | @whl q0 a1 n xs1 rows f1 hq ha1 h1=>
  rwa [fG,iC];refine zAA _ _ hq rfl ?_;rwa [fG,iC];refine aF (fun z=>absurd z Jk) (fun _=>zAA _ _ hq rfl ?_);rwa [fG,iC];refine aF (fun _=>bB ob rfl (zAZ N bl B b _ _ (zBB hP hb hv0 trivial nbf hd hm h8 q))) (fun z=>absurd trivial z)
 | @deed q0 dd hf hq=>
  rwa [fG,iC];refine jT hf hq Jk Jk Jk (zn _ rfl ?_);rw [if_neg zq6];refine jT hf hq Jk Jk Jk (zn _ rfl ?_);rw [if_neg zq6];obtain ⟨qb,ab,eb,vs,rfl,b1,b2,b3,b4,b5,b6⟩:=id hb;have lv:=b3.length;rw [FZ.bZ] at q;simp only [Stm.many] at hm;rwa [fG,iC];refine zAA _ _ (SqT.of b1) rfl (zAA ab vs rfl (.inl (SqL.of b2)) ?_)
  by_cases c8:b.ds.length=8
  ·rw [if_pos c8] at q;rw [if_pos (by rw [lv,c8];rfl)];intro a1 ha1;have t1:=Same.upd (o:=.lst [V.ref q0]) ha1;have n1:a1≠bl:=(ao hbl0 ha1).symm;refine bB (t1 _ _ ob) rfl (zAR N bl B b (hP.same t1) (hb.same t1) Jn fun H2 s2 hP2=>?_);have sx2:=(SameX.of (p:=bl) t1).trans s2;intro e3 he3 q3 hq3;obtain ⟨sm,hb3⟩:=xp (K:=K) (ed:=.go (FZ.bc b B).1) (ds:=[dd]) (s2 _ _ aj n1) n1 (hP.nw _ ha1) (.cons (zAC q0 rfl ((SameX.tsL2 sx2 hbl0).seqT hq) hf) .nil) he3 hq3;exact q _ _ (sx2.trans (SameX.of sm)) (hP2.same sm) hb3 Jo
  ·rw [if_neg c8] at q;rw [if_neg (by rw [lv];simp;omega)];intro a1 ha1;have t1:=Same.upd (o:=.lst [V.ref q0]) ha1;have n1:ab≠a1:=ao b2 ha1;refine zAA _ _ (SqT.of (t1 _ _ b1)) rfl (zAX a1 ab _ _ rfl rfl aj (t1 _ _ b2) (by rw [sizeLine_eq,cG];omega) fun a2 ha2=>?_);have t2:=Same.upd (o:=.lst ([V.ref q0]++vs)) ha2;have t12:=t1.trans t2;refine zAA _ _ (SqT.of (t12 _ _ b1)) rfl fun q3 hq3=>?_;have t3:=Same.upd (o:=.tup [V.ref a2,V.ref eb]) hq3;have t13:=t12.trans t3;have n2:a2≠bl:=(ao (t1 _ _ hbl0) ha2).symm;refine q _ _ (SameX.of t13) (hP.same t13) (zAU q3 a2 eb _ rfl aj (t3 _ _ aj) ?_ (t13 _ _ b4) n2 (hP.nw _ (t1.free ha2))) (by rw [dk];omega);exact .cons (zAC q0 rfl (t13.ts.seqT hq) hf) (FL.Paired.imp b3 fun y _ c _ z=>z.ts t13.ts)
def qh(C:Addr):Sp:=fun vs H Q _=>∃(p:Addr)(dx:Addr),vs=[.ref p]/\H p=some (.ins C dx [])/\∀bl,H bl=none->Q .non (upd (upd H bl (.lst [])) p (.ins C dx [("blocks",.ref bl)]))
def lC(K:W.Frag)(C:Addr)(d:Nat)(p:Addr)(H:Hp)(Q:VK):Prop:=∃(wd:Int)(ins oth:List Str)(ss:List Stm)(a b r:Addr)(ys:List V)(g:List Addr),ProgAt K C H p wd ins oth ss a b r ys g/\cm ss<d/\3 * bq ss<3900/\
 ∀bl xs H',Same H H'->H bl=none->H' bl=some (.lst xs)->Paired (BlkV K (fun c=>H c=none) H' bl) xs (FZ.b7 ss)->Q (.ref bl) H'
def m7(K:W.Frag)(C:Addr)(d:Nat):Sp:=fun vs H Q _=>∃p:Addr,vs=[.ref p]/\lC K C d p H Q
theorem yO{C p:Addr}{d:Nat}{H:Hp}{Q:VK}{E:XK}:m7 K C d [.ref p] H Q E=lC K C d p H Q:=propext ⟨by rintro ⟨_,e,q⟩;cases e;exact q,fun q=>zn _ rfl q⟩
theorem C1{C p:Addr}{H:Hp}{Q:VK}{E:XK}:qh C [.ref p] H Q E=∃dx,H p=some (.ins C dx [])/\∀bl,H bl=none->Q .non (upd (upd H bl (.lst [])) p (.ins C dx [("blocks",.ref bl)])):=propext ⟨by rintro ⟨_,dx,e,q⟩;cases e;exact ⟨dx,q⟩,fun ⟨dx,q⟩=>zAD _ dx rfl q⟩
theorem yn(T:Txt K mg t):FnOk P w K mg base CX0 1 t.f_1 t.e_1 ["self"] (qh t.C_Parting):=by
 refine T.d_1.F.ok IZ ∅ ?_;rintro cdv A outer s H vs Q E hr ⟨p,dx,rfl,hp,q⟩;refine ⟨_,
   (XSs.h
   (ak
    (bR (yqv 0 vl) (aT ac) rfl))),?_⟩
 rw [show aL _ [V.ref p]=[some (.ref p)] from rfl];rwa [];intro bl hbl;have np:p≠bl:=ao hp hbl;refine fu (by rw [aq np];exact hp) T.c_Parting.cl T.n_Parting_blocks Jo ?_;rw [bV Jp,sG];exact q bl hbl
theorem kj(T:Txt K mg t):∀d,FnOk P w K mg base CX0 (3 * d+3) t.f_6 t.e_6 ["self","row","block"] (dQ K t.C_Parting d fun _=>True)/\FnOk P w K mg base CX0 (3 * d+4) t.f_5 t.e_5 ["self","rows","block"] (iF K t.C_Parting d)
 |0=>by
  have h0:FnOk P w K mg base CX0 (3 * 0+3) t.f_6 t.e_6 ["self","row","block"] (dQ K t.C_Parting 0 fun _=>True):=⟨fun vs H Q E h=>by obtain ⟨_,_,_,_,_,_,_,_,_,_,_,_,_,_,_,h,_⟩:=h;omega,fun _ _ _ _ _ _ _ _ _ _ _ _ _ h=>by obtain ⟨_,_,_,_,_,_,_,_,_,_,_,_,_,_,_,h,_⟩:=h;omega⟩
  exact ⟨h0,lY T 0 h0⟩
 |d+1=>by have h1:=zp T d (Ba T d (kj T d).2) (Cg T d (kj T d).2);exact ⟨h1,lY T (d+1) h1⟩
theorem vT(T:Txt K mg t)(d:Nat):FnOk P w K mg base CX0 (3 * d+5) t.f_0 t.e_0 ["program"] (m7 K t.C_Program d):=by
 have G_1:=@yn P w K mg base t T;have G_2:=@tS P w K mg base t T;have G_5:=(@kj P w K mg base t T d).2;refine T.d_0.F.ok sc_0 ∅ ?_;rintro cdv A outer s H vs Q E hr ⟨p,rfl,wd,ins,oth,ss,a,b,r,ys,g,hP,hd,hm,q⟩;refine ⟨_,
   (XSs.h
   (ai
    (ay (i:=1) sc_0.nd rfl ll (su T.c_Parting T.d_1 G_1 hr.m gl))
   (ai
    (ay (i:=2) sc_0.nd rfl ll (dw T.c_Parting.cl T.d_2 G_2 hr.m (yqv 1 vl)))
   (ai
    (jF (aX T.c_Parting.cl T.d_5 G_5 hr.m (yqv 1 vl) (aa (aN (yqv 0 vl) rfl) (aa (aP (aa (aT ac) (aa (aP (aa aI ac)) ac))) ac))) (nG (aN (yqv 1 vl) rfl) (yqv 2 vl) kD))
   (ak
    (au (aN (yqv 1 vl) rfl))))))),?_⟩
 rw [show aL _ [V.ref p]=[some (.ref p),none,none] from rfl];rwa [mZ,g7];intro x dx hx hdx hne;rwa [C1,mZ,g7];refine zn dx aj fun bl hbl=>?_;have hbl0:H bl=none:=dD (dD hbl);have nxb:x≠bl:=ao aj hbl;have e2:upd (upd (upd (upd H dx (.own x)) x (.ins t.C_Parting dx [])) bl (.lst [])) x (.ins t.C_Parting dx [("blocks",.ref bl)]) bl=some (.lst []):=by rw [aq nxb.symm];exact aj
 have hQ:PartAt K t.C_Parting (fun c=>H c=none) (upd (upd (upd (upd H dx (.own x)) x (.ins t.C_Parting dx [])) bl (.lst [])) x (.ins t.C_Parting dx [("blocks",.ref bl)])) x bl []:=
  ⟨⟨dx,aj⟩,fun c hc=>dD (dD (dD (dD hc))),[],e2,.nil⟩
 have s2:Same H (upd (upd (upd (upd H dx (.own x)) x (.ins t.C_Parting dx [])) bl (.lst [])) x (.ins t.C_Parting dx [("blocks",.ref bl)])):=(((Same.upd hdx).updM hx).updM hbl0).updM hx;generalize upd (upd (upd (upd H dx (.own x)) x (.ins t.C_Parting dx [])) bl (.lst [])) x (.ins t.C_Parting dx [("blocks",.ref bl)])=H2 at *;obtain ⟨dx2,ob2⟩:=hQ.ob;refine bB ob2 rfl (zAO _ bl ([]) hQ Jm fun H3 sx3 hP3=>?_);have n0:∀c o,H c=some o->c≠bl:=fun c o e=>ao e hbl0;have s3:Same H H3:=fun c o e=>sx3 c o (s2 _ _ e) (n0 c o e);obtain ⟨dx3,ob3⟩:=hP3.ob;obtain ⟨dp,obp⟩:=hP.ob;refine bB ob3 rfl ?_;refine cn (s3 _ _ obp) T.c_Program.cl T.n_Program_rows rfl ?_;rwa [mZ,g7];intro a4 ha4 e4 he4 q4 hq4;obtain ⟨xs3,hbl3,_⟩:=hP3.bs;obtain ⟨sm,hb4⟩:=gA (K:=K) (N:=fun c=>H c=none) (ed:=.stop) (ds:=[]) hbl3 (hP3.nw _ ha4) ha4 .nil he4 hq4;rw [show dG .stop=[V.str "stop"] from rfl] at sm hb4;have hP4:=hP3.same sm;have s4:=s3.trans sm;generalize upd (upd (upd H3 a4 _) e4 _) q4 _=G at sm hb4 hP4 s4 ⊢;have nf:bl∉g:=fun z=>by obtain ⟨zs,hz⟩:=hP.st.tracked bl z;rw [hbl0] at hz;cases hz
 refine zBM _ bl _ _ ys ss g hP4 hb4 (s4 _ _ hP.rs) (hP.st.same s4) (n0 _ _ hP.rs) nf hd (by simp;omega) Jo fun y H5 sx5 hP5 hb5 _=>?_;rw [sG] at hP5 hb5;have eB:FZ.b7 ss=(FZ.aV ss ⟨[],.stop⟩ [⟨[],.stop⟩]).2.set 0 (FZ.aV ss ⟨[],.stop⟩ [⟨[],.stop⟩]).1:=rfl;have ho:=FZ.bG ss ⟨[],.stop⟩ [⟨[],.stop⟩];generalize FZ.aV ss ⟨[],.stop⟩ [⟨[],.stop⟩]=o at *;have s5:Same H H5:=fun c o e=>sx5 c o (s4 _ _ e) (n0 c o e);obtain ⟨dx5,ob5⟩:=hP5.ob;obtain ⟨xs5,hbl5,hxs5⟩:=hP5.bs;have lx5:=hxs5.length;rw [cG] at ho;refine cn ob5 T.c_Parting.cl T.n_Parting_blocks rfl ?_;refine zAN bl xs5 _ 0 rfl rfl hbl5 (FL.mN (k:=0) Jn) ?_;have sx6:SameX bl H5 (upd H5 bl (.lst (xs5.set 0 y))):=SameX.upd;refine cn (sx6 _ _ ob5 hP5.ne) T.c_Parting.cl T.n_Parting_blocks rfl ?_;refine q bl _ _ (fun c o e=>sx6 c o (s5 _ _ e) (n0 c o e)) hbl0 aj ?_;rw [eB];exact FL.Paired.put (hb5.sx sx6 hbl5) _ (FL.Paired.imp hxs5 fun y _ c _ h=>h.sx sx6 hbl5)
variable {E:XK} {H:Hp} {Q:VK} {a:Addr}
def xi(K:W.Frag)(o:Opd)(a:Addr)(top:Int)(H:Hp)(Q:VK):Prop:=∃(ns:List Str)(wd:Int),top=1 * 2 ^ wd.toNat/\SqL K H a (ns.map V.str)/\Opd.good ns wd o/\Q (.bl true) H
def zy(K:W.Frag):Sp:=fun vs H Q _=>∃(o:Opd)(a:Addr)(top:Int),vs=[o.v,.ref a,.int top]/\xi K o a top H Q
def nT(K:W.Frag)(q:Addr)(a:Addr)(top:Int)(H:Hp)(Q:VK):Prop:=∃(ns:List Str)(wd:Int)(d:Deed),top=1 * 2 ^ wd.toNat/\SqL K H a (ns.map V.str)/\SqT K H q d.vs/\d.fine/\Deed.good ns wd d/\∀H',Same H H'->Q (.bl true) H'
def pW(K:W.Frag):Sp:=fun vs H Q _=>∃(q:Addr)(a:Addr)(top:Int),vs=[.ref q,.ref a,.int top]/\nT K q a top H Q
def sL(K:W.Frag)(q:Addr)(a:Addr)(m:Int)(H:Hp)(Q:VK):Prop:=∃(ns:List Str)(n:Nat)(e:FZ.Ed),m=n/\SqL K H a (ns.map V.str)/\SqT K H q (dG e)/\(∀i∈e.tg,i<n)/\(∀n i j,e=.choose n i j->n∈ns)/\∀H',Same H H'->Q (.bl true) H'
def ur(K:W.Frag):Sp:=fun vs H Q _=>∃(q:Addr)(a:Addr)(m:Int),vs=[.ref q,.ref a,.int m]/\sL K q a m H Q
theorem jw{o:FB.Opd}(h:Q (.bl (iV o.v)) H):wm K [o.v,.ty "str"] H Q:=by
 cases o with
 |box n=>exact zAH _ _ _ rfl Jk .str h
 |word i=>exact zAH _ _ _ rfl Jk .int h
theorem pK{o:Opd}{top:Int}:zy K [o.v,.ref a,.int top] H Q E=xi K o a top H Q:=
 propext ⟨by
  rintro ⟨o',_,_,e,q⟩;have e2:o=o':=by
   injection e with e1 _
   cases o<;>cases o'<;>first | (injection e1 with e1;rw [e1]) | cases e1
  subst e2;injection e with _ e
  cases e
  exact q,fun q=>zAI o a top rfl q⟩
theorem uf{q:Addr}{top:Int}:pW K [.ref q,.ref a,.int top] H Q E=nT K q a top H Q:=propext ⟨by rintro ⟨_,_,_,e,q⟩;cases e;exact q,fun q=>zAI _ _ _ rfl q⟩
theorem yS{q:Addr}{m:Int}:ur K [.ref q,.ref a,.int m] H Q E=sL K q a m H Q:=propext ⟨by rintro ⟨_,_,_,e,q⟩;cases e;exact q,fun q=>zAI _ _ _ rfl q⟩
theorem io{n:Str}{ns:List Str}(h:n∈ns):inV (.str n) (ns.map V.str)=true:=by unfold inV;rw [Ay,zq69];exact zn n h (by simp [eqV])
theorem DE(T:Txt K mg t):FnOk P w K mg base CX0 2 t.f_58 t.e_58 ["_law_found","_law_names_here","_law_top"] (zy K):=by
 have G_43:=@iw P w K mg base t T;refine T.d_58.F.ok Ib ∅ ?_;rintro cdv A outer s H vs Q E hr ⟨o,a,top,rfl,ns,wd,rfl,ha,ho,q⟩;refine ⟨_,
   (XSs.h
   (ai
    (aG (aZ (aB bD gl T.z_isinstance boot_isinstance (aa (yqv 0 vl) (aa (bF (v:=.ty "str") gl T.z_str boot_str rfl) ac))))
     (ak
      (au (aW du (yqv 0 vl) (yqv 1 vl) rfl)))
     aC)
   (ak
    (au (cL (ap T.d_43 G_43 hr.m (aa (yqv 0 vl) ac) gl) (cL (aW A9 ae (yqv 0 vl) (aA _)) (dB (aW dg (yqv 0 vl) (yqv 2 vl) (aA _))))))))),?_⟩
 rw [show aL _ [o.v,V.ref a,V.int (1 * 2 ^ wd.toNat)]=[some o.v,some (.ref a),some (.int (1 * 2 ^ wd.toNat))] from rfl];rwa [];refine jw (zn _ rfl ?_)
 cases o with
 |box n=>
  rw [if_pos Jp];refine zAF _ (.inl ha) rfl (by simp [bH]) ?_;have hi:inV (Opd.box n).v (ns.map V.str)=true:=io ho;rw [hi];exact q
 |word i=>
  have ho':0<=i/\i<2 ^ wd.toNat:=ho;rw [show iV (Opd.word i).v=false from rfl,if_neg zq6,show (Opd.word i).v=.int i from rfl];rwa [eZ];rw [if_pos trivial,if_pos (by simpa using ho'.1)];have e:decide (i<1 * 2 ^ wd.toNat)=true:=by simpa using ho'.2
  rw [e];exact q
theorem jy{p:Addr}{xs:List V}(hp:SqT K H p xs)(h:Q (.bl true) H):wm K [.ref p,.ty "tuple"] H Q:=zAH _ _ _ rfl Jk (.tup hp) h
theorem tL{p:Addr}{xs:List V}(hp:SqL K H p xs)(h:Q (.bl true) H):wm K [.ref p,.ty "list"] H Q:=zAH _ _ _ rfl Jk (.lst hp) h
theorem jx{n:Str}(h:Q (.bl true) H):wm K [.str n,.ty "str"] H Q:=zAH _ _ _ rfl Jk .str h
theorem vq(d:Deed):∃f x l,d.vs=.str f::x::l:=by
 cases d with
 |tell a=>exact zAK _ _ _ rfl
 |copy n a=>exact zAK _ _ _ rfl
 |op f n a c=>exact zAK _ _ _ rfl
theorem vt{ns:List Str}{wd:Int}{d:Deed}(h:Deed.good ns wd d):(∃o,d=.tell o)\/∃(f n:Str)(os:List Opd),d.vs=.str f::.str n::os.map Opd.v/\¬f="tell"/\n∈ns/\(∀o∈os,Opd.good ns wd o)/\((f="copy"/\os.length=1)\/(¬f="copy"/\f∈opsL/\os.length=2)):=by
 cases d with
 |tell a=>exact .inl ⟨a,rfl⟩
 |copy n a=>exact .inr (zAL _ n ([a]) rfl Jk h.1 (fun o ho=>by rw [zq2.mp ho];exact h.2) (.inl ⟨rfl,rfl⟩))
 |op f n a c=>
  obtain ⟨h1,h2,h3,h4⟩:=h;have hne:¬f="tell"/\¬f="copy":=by refine ⟨?_,?_⟩<;>(rintro rfl;revert h1;decide +kernel)
  refine .inr (zAL f n ([a,c]) rfl hne.1 h2 (fun o ho=>?_) (.inr (zAB hne.2 h1 rfl)));rcases zq5.mp ho with z | z
  ·rw [z];exact h3
  ·rw [zq2.mp z];exact h4
theorem yd(T:Txt K mg t):FnOk P w K mg base CX0 3 t.f_59 t.e_59 ["_law_found","_law_names_here","_law_top"] (pW K):=by
 have G_58:=@DE P w K mg base t T;refine T.d_59.F.ok sc_59 ∅ ?_;rintro cdv A outer s H vs Q E hr ⟨p,a,top,rfl,ns,wd,d,rfl,ha,hp,hf,hd,q⟩;refine ⟨_,
   (XSs.h
   (bA
    (aG (bP (bS (bj (aZ (aB bD gl T.z_isinstance boot_isinstance (aa (yqv 0 vl) (aa (bF (v:=.ty "tuple") gl T.z_tuple boot_tuple rfl) ac))))) (bS (av dg (aB aD gl T.z_len PySem.boot_len (aa (yqv 0 vl) ac)) ae (aA _)) (cj (bj (aZ (aB bD gl T.z_isinstance boot_isinstance (aa (am aw (yqv 0 vl) ae) (aa (bF (v:=.ty "str") gl T.z_str boot_str rfl) ac)))))))))
     (ak
      (au bE))
     aC)
   (ai
    (aG (av aR (am aw (yqv 0 vl) ae) aI (aA _))
     (ak
      (au (cL (aW aR (aB aD gl T.z_len PySem.boot_len (aa (yqv 0 vl) ac)) ae (aA _)) (dB (ap T.d_58 G_58 hr.m (aa (am aw (yqv 0 vl) ae) (aa (yqv 1 vc) (aa (yqv 2 vc) ac))) gl)))))
     aC)
   (bA
    (aG (av aR (am aw (yqv 0 vl) ae) aI (aA _))
     (ak
      (aG (av eF (aB aD gl T.z_len PySem.boot_len (aa (yqv 0 vl) ac)) ae (aA _))
       (ak
        (au bE))
       aC))
     (ak
      (aG (bP (bS (av dN (am aw (yqv 0 vl) ae) (aT (fk Jp)) rfl) (cj (av eF (aB aD gl T.z_len PySem.boot_len (aa (yqv 0 vl) ac)) ae (aA _)))))
       (ak
        (au bE))
       aC)))
   (ai
    (d5 (i:=3) sc_59.nd rfl ll rfl Jl (tns:=["_law_operand_here"]) (cns:=["_law_names_here","_law_top"]) (ci:=[1,2]) rfl (CompSc.of Jl) (jE (bO nq (yqv 0 vl) (bM ae) cJ)) (fun _=>(aH (i:=1) (show List.Nodup [(".0":Str),("_law_operand_here":Str),("_law_names_here":Str),("_law_top":Str)] by decide +kernel) rfl ll (Or.inr Jl))) (fun _=>(iJ (bj (aZ (ap T.d_58 G_58 hr.m (aa (yqv 1 vl) (aa (yqv 2 vc) (aa (yqv 3 vc) ac))) gl))))) (fun _=>(yqv 1 vl)))
   (ak
    (au (cL (aB bD gl T.z_isinstance boot_isinstance (aa (am aw (yqv 0 vl) ae) (aa (bF (v:=.ty "str") gl T.z_str boot_str rfl) ac))) (cL (aW du (am aw (yqv 0 vl) ae) (yqv 1 vc) rfl) (dB (aW aR (aB aD gl T.z_len PySem.boot_len (aa (yqv 3 vl) ac)) ae (aA _)))))))))))),?_⟩
 rw [show aL _ [V.ref p,V.ref a,V.int (1 * 2 ^ wd.toNat)]=[some (.ref p),some (.ref a),some (.int (1 * 2 ^ wd.toNat)),none] from rfl];rwa [];refine zn (fun σ H'=>H'=H/\σ=[some (.ref p),some (.ref a),some (.int (1 * 2 ^ wd.toNat)),none]) ?_ ?_
 ·obtain ⟨f,x,l,hd⟩:=vq d;rw [hd] at hp;refine jy hp (zn _ rfl ?_);rw [if_neg Jm];refine zn _ (.inr hp) ?_;rw [if_neg (by simp;omega)];refine zAA _ _ hp (bo (j:=0) rfl) (jx (zn _ rfl ?_));rw [if_neg Jm];exact ⟨rfl,rfl⟩
 rintro σ H1 ⟨rfl,rfl⟩;rwa [pK];rcases vt hd with ⟨o,rfl⟩ | ⟨f,n,os,ed,f1,hn,hos,hk⟩
 ·refine zAA _ _ hp rfl ?_;rwa [pK];rw [if_pos Jm];refine zn _ (.inr hp) ?_;rw [if_pos Jp];refine zAA _ _ hp rfl ?_;rw [pK];exact zAE ns wd rfl ha hd (q _ (Same.refl _))
 ·rw [ed] at hp;refine zAA _ _ hp (bo (j:=0) rfl) ?_;rwa [pK];rw [if_neg (by simpa using f1)];refine zn (fun σ H'=>Same H1 H'/\σ=[some (.ref p),some (.ref a),some (.int (1 * 2 ^ wd.toNat)),none]) ?_ ?_
  ·refine zAA _ _ hp (bo (j:=0) rfl) ?_;rwa [];rcases hk with ⟨k1,k2⟩ | ⟨k1,k2,k3⟩
   ·rw [if_pos (by simpa using k1)];refine zn _ (.inr hp) ?_;rw [if_neg (by simp [k2])];exact Same.refl _
   ·rw [if_neg (by simpa using k1)];refine zAA _ _ hp (bo (j:=0) rfl) fun p1 hp1=>?_;have t1:=Same.upd (o:=.lst [V.str "plus",V.str "less",V.str "and",V.str "or",V.str "xor",V.str "below",V.str "same"]) hp1;refine zAF _ (.inl (SqL.of aj)) rfl rfl ?_;have hi:inV (.str f) [V.str "plus",V.str "less",V.str "and",V.str "or",V.str "xor",V.str "below",V.str "same"]=true:=io (ns:=opsL) k2;rw [hi,if_neg Jm];refine zn _ (.inr (t1.seqT hp)) ?_;rw [if_neg (by simp [k3])];exact t1
  rintro σ H2 ⟨s2,rfl⟩;rwa [];have l2:1<=os.length/\os.length<=2:=by rcases hk with ⟨_,k⟩ | ⟨_,_,k⟩<;>omega
  have hc:eJ (V.str f::V.str n::os.map Opd.v) (some 2) none=os.map Opd.v:=by rw [iR Jm];rfl
  refine zAC _ (s2.seqT hp) (by simp [HT.sIx]) fun p1 hp1=>?_;rw [hc];have t1:=Same.upd (o:=.tup (os.map Opd.v)) hp1;have s3:=s2.trans t1;refine ⟨⟨_,SqT.of aj⟩,fun acc hacc bk=>?_⟩;refine ic (fun _=>false) id (by rw [sizeLine_eq,zq1];omega) (SqT.of aj) hacc (fun x hm H4 Q' s4 h=>?_) (fun _ _ _ _ _ z=>by cases z) ?_
  ·obtain ⟨o,ho,rfl⟩:=zq21.mp hm;rwa [pK];exact zAE ns wd rfl ((s3.trans s4).seq ha) (hos o ho) (zn _ rfl h)
  ·rw [show List.map id (List.filter (fun _:V=>false) (os.map Opd.v))=[] by simp];have t5:=Same.upd (o:=.lst []) hacc;have s5:=s3.trans t5;refine zAA _ _ (s5.seqT hp) (bo (j:=1) rfl) (jx (zn _ rfl ?_));rw [if_pos rfl];refine zAA _ _ (s5.seqT hp) (bo (j:=1) rfl) ?_;refine zAF _ (.inl (s5.seq ha)) rfl (by simp [bH]) ?_;have hi:inV (.str n) (ns.map V.str)=true:=io hn;rw [hi,if_pos rfl];exact zn _ (.inl (SqL.of aj)) (q _ s5)
theorem Bi(T:Txt K mg t):FnOk P w K mg base CX0 2 t.f_60 t.e_60 ["_law_found","_law_names_here","_law_many"] (ur K):=by
 have G_43:=@iw P w K mg base t T;refine T.d_60.F.ok Ic ∅ ?_;rintro cdv A outer s H vs Q E hr ⟨p,a,m,rfl,ns,n,e,rfl,ha,hp,ht,hn,q⟩;refine ⟨_,
   (XSs.h
   (bA
    (aG (bP (bS (bj (aZ (aB bD gl T.z_isinstance boot_isinstance (aa (yqv 0 vl) (aa (bF (v:=.ty "tuple") gl T.z_tuple boot_tuple rfl) ac))))) (bS (av aR (aB aD gl T.z_len PySem.boot_len (aa (yqv 0 vl) ac)) ae (aA _)) (cj (bj (aZ (aB bD gl T.z_isinstance boot_isinstance (aa (am aw (yqv 0 vl) ae) (aa (bF (v:=.ty "str") gl T.z_str boot_str rfl) ac)))))))))
     (ak
      (au bE))
     aC)
   (ai
    (aG (av aR (am aw (yqv 0 vl) ae) aI (aA _))
     (ak
      (au (aW aR (aB aD gl T.z_len PySem.boot_len (aa (yqv 0 vl) ac)) ae (aA _))))
     aC)
   (ai
    (aG (av aR (am aw (yqv 0 vl) ae) aI (aA _))
     (ak
      (au (cL (aW aR (aB aD gl T.z_len PySem.boot_len (aa (yqv 0 vl) ac)) ae (aA _)) (cL (ap T.d_43 G_43 hr.m (aa (am aw (yqv 0 vl) ae) ac) gl) (cL (aW A9 ae (am aw (yqv 0 vl) ae) (aA _)) (dB (aW dg (am aw (yqv 0 vl) ae) (yqv 2 vc) (aA _))))))))
     aC)
   (ai
    (aG (bP (bS (av eF (am aw (yqv 0 vl) ae) aI (aA _)) (bS (av eF (aB aD gl T.z_len PySem.boot_len (aa (yqv 0 vl) ac)) ae (aA _)) (bS (bj (aZ (aB bD gl T.z_isinstance boot_isinstance (aa (am aw (yqv 0 vl) ae) (aa (bF (v:=.ty "str") gl T.z_str boot_str rfl) ac))))) (cj (av dN (am aw (yqv 0 vl) ae) (yqv 1 vl) rfl))))))
     (ak
      (au bE))
     aC)
   (ak
    (au (aW aR (aB aD gl T.z_len PySem.boot_len (aa (bT (tns:=["_law_k"]) (cns:=["_law_many"]) (ci:=[2]) rfl (CompSc.of Jl) (jE (bO nq (yqv 0 vl) (bM ae) cJ)) (fun _=>(aH (i:=1) (show List.Nodup [(".0":Str),("_law_k":Str),("_law_many":Str)] by decide +kernel) rfl ll (Or.inr Jl))) (fun _=>(iJ (bP (bS (bj (aZ (ap T.d_43 G_43 hr.m (aa (yqv 1 vl) ac) gl))) (bS (av dg (yqv 1 vl) ae (aA _)) (cj (av nH (yqv 1 vl) (yqv 2 vc) (aA _)))))))) (fun _=>(yqv 1 vl))) ac)) ae (aA _))))))))),?_⟩
 rw [show aL _ [V.ref p,V.ref a,V.int n]=[some (.ref p),some (.ref a),some (.int n)] from rfl];rwa [];refine zn (fun σ H'=>H'=H/\σ=[some (.ref p),some (.ref a),some (.int n)]) ?_ ?_
 ·obtain ⟨f,l,hd⟩:∃f l,dG e=.str f::l:=by cases e<;>exact zAM _ _ rfl
  rw [hd] at hp;refine jy hp (zn _ rfl ?_);rw [if_neg Jm];refine zn _ (.inr hp) ?_;rw [if_neg (by simp;omega)];refine zAA _ _ hp (bo (j:=0) rfl) (jx (zn _ rfl ?_));rw [if_neg Jm];exact ⟨rfl,rfl⟩
 rintro σ H1 ⟨rfl,rfl⟩;rwa []
 cases e with
 |stop=>
  refine zAA _ _ hp rfl ?_;rwa [];rw [if_pos Jm];exact zn _ (.inr hp) (q _ (Same.refl _))
 |go i=>
  have hi:i<n:=ht i (by simp [FZ.Ed.tg]);refine zAA _ _ hp rfl ?_;rwa [];rw [if_neg Jk];refine zAA _ _ hp rfl ?_;rwa [];rw [if_pos Jm];refine zn _ (.inr hp) ?_;rw [if_pos Jp];refine zAA _ _ hp rfl ?_;rwa [eZ];rw [if_pos trivial];refine zAA _ _ hp rfl ?_;rwa [];rw [if_pos Jo];refine zAA _ _ hp rfl ?_;rwa [];have e:decide ((i:Int)<n)=true:=by simpa using hi
  rw [e];exact q _ (Same.refl _)
 |choose m i j=>
  have hi:i<n:=ht i (by simp [FZ.Ed.tg]);have hj:j<n:=ht j (by simp [FZ.Ed.tg]);have hm:=hn m i j rfl;refine zAA _ _ hp rfl ?_;rwa [];rw [if_neg Jk];refine zAA _ _ hp rfl ?_;rwa [];rw [if_neg Jk];refine zAA _ _ hp rfl ?_;rwa [];rw [if_neg Jm];refine zn _ (.inr hp) ?_;rw [if_neg (by simp [dG])];refine zAA _ _ hp rfl (jx (zn _ rfl ?_));rw [if_neg Jm];refine zAA _ _ hp rfl (zAF _ (.inl ha) rfl (by simp [bH]) ?_);have hi2:inV (.str m) (ns.map V.str)=true:=io hm;rw [hi2,if_neg Jm];have hc:eJ (dG (.choose m i j)) (some 2) none=[.int i,.int j]:=by rw [iR Jm];rfl
  refine zAC _ hp (by simp [HT.sIx,dG]) fun p1 hp1=>?_;rw [hc];have t1:=Same.upd (o:=.tup [V.int i,V.int j]) hp1;refine ⟨⟨_,SqT.of aj⟩,fun acc hacc bk=>?_⟩;refine ic (fun _=>false) id (by rw [sizeLine_eq];simp) (SqT.of aj) hacc (fun x hx H4 Q' s4 h=>?_) (fun _ _ _ _ _ z=>by cases z) ?_
  ·obtain ⟨k,hk,rfl⟩:∃k:Nat,k<n/\x=.int k:=by
    rcases zq5.mp hx with z | z
    ·exact zn i hi z
    ·exact zn j hj (zq2.mp z)
   rwa [eZ];rw [if_neg Jo,decide_eq_false Jn];exact h
  ·rw [show List.map id (List.filter (fun _:V=>false) [V.int i,V.int j])=[] by simp];have t5:=Same.upd (o:=.lst []) hacc;exact zn _ (.inl (SqL.of aj)) (q _ (t1.trans t5))
structure DrN(K:W.Frag)(H:Hp)(q:Addr)(wd:Int)(ins oth:List Str)(pr:Addr):Prop where
 ex:∃pi po,SqT K H q [.int wd,.ref pi,.ref po,.ref pr]/\H pi=some (.lst (ins.map V.str))/\H po=some (.lst (oth.map V.str))
 few:(ins++oth).length<=8
 w1:1<=wd
 w8:wd<=8
def sM(K:W.Frag)(bl:Addr)(q:Addr)(H:Hp)(Q:VK):Prop:=∃(N:Addr->Prop)(xs:List V)(B:List FZ.Blk)(wd:Int)(ins oth:List Str)(pr:Addr),H bl=some (.lst xs)/\Paired (BlkV K N H bl) xs B/\FZ.i4 (ins++oth) wd B.length B/\0<B.length/\B.length<=5000/\DrN K H q wd ins oth pr/\∀H',Same H H'->Q (.bl true) H'
def uu(K:W.Frag):Sp:=fun vs H Q _=>∃(bl:Addr)(q:Addr),vs=[.ref bl,.ref q]/\sM K bl q H Q
theorem Ek{bl q:Addr}{H:Hp}{Q:VK}{E:XK}:uu K [.ref bl,.ref q] H Q E=sM K bl q H Q:=propext ⟨by rintro ⟨_,_,e,q⟩;cases e;exact q,fun q=>zAD _ _ rfl q⟩
theorem Bj(T:Txt K mg t):FnOk P w K mg base CX0 4 t.f_61 t.e_61 ["_law_found","_law_drawn_here"] (uu K):=by
 have G_59:=@yd P w K mg base t T;have G_60:=@Bi P w K mg base t T;refine T.d_61.F.ok sc_61 ∅ ?_;rintro cdv A outer s H vs Q E hr ⟨bl,p,rfl,N,xs,B,wd,ins,oth,pr,hbl,hxs,hG,b0,b1,hD,q⟩;refine ⟨_,
   (XSs.h
   (ai
    (ay (i:=2) sc_61.nd rfl ll (ax hZ (am aw (yqv 1 vl) ae) (am aw (yqv 1 vl) ae)))
   (bA
    (aG (bP (bS (bj (aZ (aB bD gl T.z_isinstance boot_isinstance (aa (yqv 0 vl) (aa (bF (v:=.ty "list") gl T.z_list boot_list rfl) ac))))) (cj (av aR (aB aD gl T.z_len PySem.boot_len (aa (yqv 0 vl) ac)) ae (aA _)))))
     (ak
      (au bE))
     aC)
   (ai
    (bu PassesOwn.never rfl (b9 (yqv 0 vl)) (aH (i:=3) sc_61.nd rfl ll)
     (bA
      (aG (bP (bS (bj (aZ (aB bD gl T.z_isinstance boot_isinstance (aa (yqv 3 vl) (aa (bF (v:=.ty "tuple") gl T.z_tuple boot_tuple rfl) ac))))) (bS (av eF (aB aD gl T.z_len PySem.boot_len (aa (yqv 3 vl) ac)) ae (aA _)) (cj (bj (aZ (aB bD gl T.z_isinstance boot_isinstance (aa (am aw (yqv 3 vl) ae) (aa (bF (v:=.ty "list") gl T.z_list boot_list rfl) ac)))))))))
       (ak
        (au bE))
       aC)
     (bA
      (bu PassesOwn.never rfl (b9 (am aw (yqv 3 vl) ae)) (aH (i:=4) sc_61.nd rfl ll)
       (ak
        (aG (bj (aZ (ap T.d_59 G_59 hr.m (aa (yqv 4 vl) (aa (yqv 2 vl) (aa (ax fK ae (am aw (yqv 1 vl) ae)) ac))) gl)))
         (ak
          (au bE))
         aC)))
     (ak
      (aG (bj (aZ (ap T.d_60 G_60 hr.m (aa (am aw (yqv 3 vl) ae) (aa (yqv 2 vl) (aa (aB aD gl T.z_len PySem.boot_len (aa (yqv 0 vl) ac)) ac))) gl)))
       (ak
        (au bE))
       aC)))))
   (ak
    (au bE)))))),?_⟩
 rw [show aL _ [V.ref bl,V.ref p]=[some (.ref bl),some (.ref p),none,none,none] from rfl];rwa [];obtain ⟨pi,po,hq,hi,ho⟩:=hD.ex;have hfew:=hD.few;rw [zq3] at hfew;refine zAA _ _ hq rfl (zAA _ _ hq rfl (zAX pi po _ _ rfl rfl hi ho (by rw [zq1,zq1,sizeLine_eq];omega) fun pn hpn=>?_));have t1:=Same.upd (o:=.lst (ins.map V.str++oth.map V.str)) hpn;have en:upd H pn (.lst (ins.map V.str++oth.map V.str)) pn=some (.lst ((ins++oth).map V.str)):=by rw [aj,cS]
 generalize upd H pn _=H1 at t1 en ⊢;have lx:=hxs.length;refine zn (fun σ H'=>H'=H1/\σ=[some (.ref bl),some (.ref p),some (.ref pn),none,none]) ?_ ?_
 ·refine tL (SqL.of (t1 _ _ hbl)) (zn _ rfl ?_);rw [if_neg Jm];refine zn _ (.inl (SqL.of (t1 _ _ hbl))) ?_;rw [if_neg (by simp;intro z;rw [z] at lx;simp at lx;omega)];exact ⟨rfl,rfl⟩
 rintro σ H2 ⟨rfl,rfl⟩;rwa [];refine ⟨⟨_,SqL.of (t1 _ _ hbl)⟩,?_⟩;refine cA (xs:=xs) (fun i σ H'=>Same H2 H'/\∃o3 o4,σ=[some (.ref bl),some (.ref p),some (.ref pn),o3,o4]) ⟨Same.refl _,zAM _ _ rfl⟩ (fun i σ H' _ h=>SqL.of (h.1 _ _ (t1 _ _ hbl))) ?_ ?_
 ·rintro i x σ H3 hx ⟨s3,o3,o4,rfl⟩;obtain ⟨b,hb,hbv⟩:=Paired.get hxs hx;have s03:=t1.trans s3;have hg:=hG b (zq4 hb);obtain ⟨qb,ab,eb,vs,rfl,v1,v2,v3,v4,v5,v6⟩:=hbv.same s03;rwa [];refine zn (fun σ H'=>H'=H3/\σ=[some (.ref bl),some (.ref p),some (.ref pn),some (.ref qb),o4]) ?_ ?_
  ·refine jy (SqT.of v1) (zn _ rfl ?_);rw [if_neg Jm];refine zn _ (.inr (SqT.of v1)) ?_;rw [if_neg Jo];refine zAA _ _ (SqT.of v1) rfl (tL (SqL.of v2) (zn _ rfl ?_));rw [if_neg Jm];exact ⟨rfl,rfl⟩
  rintro σ H4 ⟨rfl,rfl⟩;rwa [];refine ⟨fun σ H'=>Same H4 H'/\∃o4,σ=[some (.ref bl),some (.ref p),some (.ref pn),some (.ref qb),o4],?_,?_⟩
  ·refine zAA _ _ (SqT.of v1) rfl (zAC _ rfl ⟨_,SqL.of v2⟩ ?_);refine cA (xs:=vs) (fun i σ H'=>Same H4 H'/\∃o4,σ=[some (.ref bl),some (.ref p),some (.ref pn),some (.ref qb),o4]) ⟨Same.refl _,_,rfl⟩ (fun i σ H' _ h=>SqL.of (h.1 _ _ v2)) ?_ ?_
   ·rintro j y σ H5 hy ⟨s5,o4,rfl⟩;obtain ⟨d,hd,q0,rfl,hq0,hf⟩:=Paired.get v3 hy;have s05:=s03.trans s5;rwa [uf];refine zAA _ _ (s05.seqT hq) rfl ?_;have hw1:=hD.w1;have hw8:=hD.w8;rwa [uf];refine ⟨zAB Jn Jn Jm,?_⟩;refine zBG (ins++oth) wd d rfl (SqL.of (s5 _ _ (s3 _ _ en))) (s5.seqT hq0) hf (hg.gd d (zq4 hd)) fun H6 s6=>zn _ rfl ?_;rw [if_neg Jm];exact ⟨s5.trans s6,_,rfl⟩
   ·rintro σ H5 ⟨s5,o4,rfl⟩;exact ⟨s5,_,rfl⟩
  rintro σ H5 ⟨s5,o4,rfl⟩;have s05:=s03.trans s5;rwa [yS];refine zAA _ _ (SqT.of (s5 _ _ v1)) rfl (zn xs (.inl (SqL.of (s05 _ _ hbl))) ?_);rw [yS];refine zBG (ins++oth) B.length b.ed (by rw [lx]) (SqL.of (s5 _ _ (s3 _ _ en))) (SqT.of (s5 _ _ v4)) hg.tg hg.nm fun H6 s6=>zn _ rfl ?_;rw [if_neg Jm];exact ⟨s3.trans (s5.trans s6),zAM _ _ rfl⟩
 ·rintro σ H3 ⟨s3,o3,o4,rfl⟩;rwa [];exact q _ (t1.trans s3)
theorem tG{o:FB.Opd}:List.map id (List.filter iV [o.v])=o.reads.map V.str:=by cases o<;>rfl
theorem xy{o p:FB.Opd}:List.map id (List.filter iV [o.v,p.v])=(o.reads++p.reads).map V.str:=by cases o<;>cases p<;>rfl
theorem rF{f:Str}(h:f∈FB.opsL):¬f="tell":=by
 rintro rfl
 revert h
 decide +kernel
theorem ix0{d:FB.Deed}{H:Hp}{a:Addr}{Z:V->Hp->Prop}(f:d.fine)(hS:SqT K H a d.vs)(h:Z (.bl d.tells) H):∃xs v,SqT K H a xs/\atI xs 0=some v/\rEq v (.str "tell") H Z:=by
 cases d with
 |tell o=>exact zAE _ _ hS rfl rfl h
 |copy n o=>exact zAE _ _ hS rfl rfl h
 |op g n o p=>refine zAE _ _ hS rfl rfl ?_;have e:decide (V.str g=V.str "tell")=false:=decide_eq_false (fun z=>rF f (V.str.inj z));rw [e];exact h
def wr(d:FB.Deed):Str:=d.writes.headD ""
theorem Io{d:FB.Deed}(f:d.tells=true):d.writes=[]:=by
 cases d with
 |tell o=>rfl
 |copy n o=>cases f
 |op g n o p=>cases f
def gJ:FB.Deed->List FB.Opd
 | .tell a=>[a]
 | .copy _ a=>[a]
 | .op _ _ a b=>[a,b]
def wrV(d:FB.Deed):V:=match d.writes with | []=>.non | n::_=>.str n
def uF(K:W.Frag):Sp:=fun vs H Q _=>∃(a:Addr)(d:FB.Deed),vs=[.ref a]/\SqT K H a d.vs/\d.fine/\∀p,H p=none->Q (.ref p) (upd H p (.tup ((gJ d).map FB.Opd.v)))
def kH(K:W.Frag):Sp:=fun vs H Q _=>∃(a:Addr)(d:FB.Deed),vs=[.ref a]/\SqT K H a d.vs/\d.fine/\Q (wrV d) H
theorem pE{d:FB.Deed}:(gJ d).length<=2:=by cases d<;>simp [gJ]
theorem tV(T:Txt K mg t):FnOk P w K mg base CX0 1 t.f_14 t.e_14 ["deed"] (uF K):=by
 refine T.d_14.F.ok HG ∅ ?_;rintro cdv A outer s H vs Q E hr ⟨a,d,rfl,hS,hf,q⟩;refine ⟨_,
   (XSs.h
   (ak
    (au (cM (av aR (am aw (yqv 0 vl) ae) aI (aA _)) (bO nq (yqv 0 vl) (bM ae) cJ) (bO nq (yqv 0 vl) (bM ae) cJ))))),?_⟩
 rw [show aL _ [V.ref a]=[some (.ref a)] from rfl];rwa [];refine ix0 hf hS (zn _ rfl ?_)
 cases d with
 |tell o=>exact zAC _ hS (kf (k:=1) (show ¬HT.sIx 2 0 (some 1)=0 by decide)) q
 |copy n o=>exact zAC _ hS (kf (k:=2) (show ¬HT.sIx 3 0 (some 2)=0 by decide)) q
 |op f n o o2=>exact zAC _ hS (kf (k:=2) (show ¬HT.sIx 4 0 (some 2)=0 by decide)) q
theorem z7{a:Addr}{H:Hp}{Q:VK}{E:XK}:uF K [.ref a] H Q E=∃d:FB.Deed,SqT K H a d.vs/\d.fine/\∀p,H p=none->Q (.ref p) (upd H p (.tup ((gJ d).map FB.Opd.v))):=propext ⟨by rintro ⟨_,d,e,q⟩;cases e;exact ⟨d,q⟩,by rintro ⟨d,q⟩;exact zAD a d rfl q⟩
theorem fB(T:Txt K mg t):FnOk P w K mg base CX0 1 t.f_16 t.e_16 ["deed"] (kH K):=by
 refine T.d_16.F.ok HI ∅ ?_;rintro cdv A outer s H vs Q E hr ⟨a,d,rfl,hS,hf,q⟩;refine ⟨_,
   (XSs.h
   (ak
    (au (cM (av aR (am aw (yqv 0 vl) ae) aI (aA _)) dc (am aw (yqv 0 vl) ae))))),?_⟩
 rw [show aL _ [V.ref a]=[some (.ref a)] from rfl];rwa [];refine ix0 hf hS (zn _ rfl ?_)
 cases d with
 |tell o=>exact q
 |copy n o=>exact zAA _ _ hS rfl q
 |op f n o o2=>exact zAA _ _ hS rfl q
theorem d3{a:Addr}{H:Hp}{Q:VK}{E:XK}:kH K [.ref a] H Q E=∃d:FB.Deed,SqT K H a d.vs/\d.fine/\Q (wrV d) H:=propext ⟨by rintro ⟨_,d,e,q⟩;cases e;exact ⟨d,q⟩,by rintro ⟨d,q⟩;exact zAD a d rfl q⟩
def gS:Sp:=fun vs H Q _=>∃w:Int,vs=[.int w]/\0<=w/\w<=8/\Q (.int (2 ^ w.toNat)) H
theorem nh{w:Int}{H:Hp}{Q:VK}{E:XK}:gS [.int w] H Q E=(0<=w/\w<=8/\Q (.int (2 ^ w.toNat)) H):=propext ⟨by rintro ⟨_,e,q⟩;cases e;exact q,by intro q;exact zn w rfl q⟩
def jj:Sp:=fun vs H Q _=>∃(op:Str)(x y w:Int),vs=[.str op,.int x,.int y,.int w]/\0<=w/\w<=8/\Q (.int (ky op x y w)) H
theorem rM{op:Str}{x y w:Int}{H:Hp}{Q:VK}{E:XK}:jj [.str op,.int x,.int y,.int w] H Q E=(0<=w/\w<=8/\Q (.int (ky op x y w)) H):=propext ⟨by rintro ⟨_,_,_,_,e,q⟩;cases e;exact q,by intro q;exact zAP op x y w rfl q⟩
theorem kY(T:Txt K mg t):FnOk P w K mg base CX0 1 t.f_12 t.e_12 ["width"] gS:=by
 refine T.d_12.F.ok sc_12 ∅ ?_;rintro cdv A outer s H vs Q E hr ⟨w,rfl,h0,h8,q⟩;refine ⟨_,
   (XSs.h
   (ai
    (ay (i:=1) sc_12.nd rfl ll ae)
   (ai
    (bu PassesOwn.never rfl (bX gl T.z_range (aa (yqv 0 vl) ac)) (aH (i:=2) sc_12.nd rfl ll)
     (ak
      (ay (i:=1) sc_12.nd rfl ll (ax cO (yqv 1 vl) ae))))
   (ak
    (au (yqv 1 vl)))))),?_⟩
 rw [show aL _ [V.int w]=[some (.int w),none,none] from rfl];rwa [];refine zAB Jn Jn (eT (fun i σ H'=>H'=H/\∃b,σ=[some (.int w),some (.int (2 ^ i)),b]) ⟨rfl,none,rfl⟩ ?_ ?_)
 ·rintro i σ H2 hi ⟨rfl,b,rfl⟩;rwa [];exact ⟨.inr ⟨Jm,Jm⟩,_,by rw [Int.pow_succ]⟩
 ·rintro σ H2 ⟨rfl,b,rfl⟩;rwa [];exact q
theorem pC(T:Txt K mg t):FnOk P w K mg base CX0 2 t.f_13 t.e_13 ["op","x","y","width"] jj:=by
 have G_12:=@kY P w K mg base t T;refine T.d_13.F.ok HF ∅ ?_;rintro cdv A outer s H vs Q E hr ⟨op,x,y,w,rfl,h0,h8,q⟩;refine ⟨_,
   (XSs.h
   (ai
    (aG (av aR (yqv 0 vl) aI (aA _))
     (ak
      (au (ax aU (ax bw (yqv 1 vl) (yqv 2 vl)) (ap T.d_12 G_12 hr.m (aa (yqv 3 vl) ac) gl))))
     aC)
   (ai
    (aG (av aR (yqv 0 vl) aI (aA _))
     (ak
      (au (ax aU (ax cP (yqv 1 vl) (yqv 2 vl)) (ap T.d_12 G_12 hr.m (aa (yqv 3 vl) ac) gl))))
     aC)
   (ai
    (aG (av aR (yqv 0 vl) aI (aA _))
     (ak
      (au (ax uU (yqv 1 vl) (yqv 2 vl))))
     aC)
   (ai
    (aG (av aR (yqv 0 vl) aI (aA _))
     (ak
      (au (ax Aa (yqv 1 vl) (yqv 2 vl))))
     aC)
   (ai
    (aG (av aR (yqv 0 vl) aI (aA _))
     (ak
      (au (ax uW (yqv 1 vl) (yqv 2 vl))))
     aC)
   (ai
    (aG (av aR (yqv 0 vl) aI (aA _))
     (ak
      (au (cM (av dg (yqv 1 vl) (yqv 2 vl) (aA _)) ae ae)))
     aC)
   (ak
    (au (cM (av aR (yqv 1 vl) (yqv 2 vl) (aA _)) ae ae)))))))))),?_⟩
 rw [show aL _ [V.str op,V.int x,V.int y,V.int w]=[some (.str op),some (.int x),some (.int y),some (.int w)] from rfl];rwa [nh];unfold ky at q;have hp:(0:Int)<2 ^ w.toNat:=sD Jm;refine aF (fun e=>?_) (fun e=>?_)
 ·rw [if_pos e] at q;exact zAG h0 h8 hp q
 rw [if_neg e] at q;refine aF (fun e=>?_) (fun e=>?_)
 ·rw [if_pos e] at q;exact zAG h0 h8 hp q
 rw [if_neg e] at q;refine aF (fun e=>?_) (fun e=>?_)
 ·rw [if_pos e] at q;exact q
 rw [if_neg e] at q;refine aF (fun e=>?_) (fun e=>?_)
 ·rw [if_pos e] at q;exact q
 rw [if_neg e] at q;refine aF (fun e=>?_) (fun e=>?_)
 ·rw [if_pos e] at q;exact q
 rw [if_neg e] at q;refine aF (fun e=>?_) (fun e=>?_)
 ·rw [if_pos e] at q;refine aF (fun e=>?_) (fun e=>?_)
  ·rw [if_pos e] at q;exact q
  ·rw [if_neg e] at q;exact q
 rw [if_neg e] at q;refine aF (fun e=>?_) (fun e=>?_)
 ·rw [if_pos e] at q;exact q
 ·rw [if_neg e] at q;exact q
def ny(K:W.Frag):Sp:=fun vs H Q _=>∃(o:Opd)(bx:Addr)(b:Bx)(ns:List Str)(w:Int),vs=[o.v,.ref bx]/\H bx=some (.dK b)/\BxG ns w b/\Opd.good ns w o/\Q (.int (eK b o)) H
def AV(K:W.Frag)(a:Addr)(bx:Addr)(w:Int)(H:Hp)(Q:VK):Prop:=∃(d:Deed)(b:Bx)(ns:List Str),SqT K H a d.vs/\H bx=some (.dK b)/\BxG ns w b/\d.fine/\Deed.good ns w d/\1<=w/\w<=8/\∀H',Same H H'->Q (.int (cY b w d)) H'
def uD(K:W.Frag):Sp:=fun vs H Q _=>∃(a:Addr)(bx:Addr)(w:Int),vs=[.ref a,.ref bx,.int w]/\AV K a bx w H Q
theorem By(T:Txt K mg t):FnOk P w K mg base CX0 1 t.f_18 t.e_18 ["operand","boxes"] (ny K):=by
 refine T.d_18.F.ok HK ∅ ?_;rintro cdv A outer s H vs Q E hr ⟨o,bx,b,ns,w,rfl,hB,hG,ho,q⟩;have hu:=cT hr;refine ⟨_,
   (XSs.h
   (ak
    (au (cM (aZ (aB bD gl T.z_isinstance boot_isinstance (aa (yqv 0 vl) (aa (bF (v:=.ty "str") gl T.z_str boot_str rfl) ac)))) (cu hu (yqv 1 vl) (yqv 0 vl) (fun _ _=>rfl)) (yqv 0 vl))))),?_⟩
 rw [show aL _ [o.v,V.ref bx]=[some o.v,some (.ref bx)] from rfl];rwa [];refine jw (zn _ rfl ?_)
 cases o with
 |box n=>exact zAA bx _ rfl (.inl (zAA b (.inr n) (.inl hB) rfl (hG.val ho).symm)) q
 |word i=>exact q
theorem fH{o:Opd}{bx:Addr}{H:Hp}{Q:VK}{E:XK}:ny K [o.v,.ref bx] H Q E=∃(b:Bx)(ns:List Str)(w:Int),H bx=some (.dK b)/\BxG ns w b/\Opd.good ns w o/\Q (.int (eK b o)) H:=
 propext ⟨fun ⟨o',_,b,ns,w,e,q⟩=>by
  have e2:o=o':=by
   injection e with e1 _
   cases o<;>cases o'<;>first | (injection e1 with e1;rw [e1]) | cases e1
  subst e2;injection e with _ e;injection e with e _;injection e with e;subst e;exact zAK b ns w q,fun ⟨b,ns,w,q⟩=>zBN o bx b ns w rfl q⟩
theorem w9{ns:List Str}{w:Int}{d:Deed}(h:Deed.good ns w d):∀o∈gJ d,Opd.good ns w o:=by
 cases d with
 |tell a=>intro o ho;rw [zq2.mp ho];exact h
 |copy n a=>intro o ho;rw [zq2.mp ho];exact h.2
 |op f n a c=>
  intro o ho;rcases zq5.mp ho with z | z
  ·rw [z];exact h.2.2.1
  ·rw [zq2.mp z];exact h.2.2.2
theorem tU(T:Txt K mg t):FnOk P w K mg base CX0 3 t.f_19 t.e_19 ["deed","boxes","width"] (uD K):=by
 have G_14:=@tV P w K mg base t T;have G_18:=@By P w K mg base t T;have G_13:=@pC P w K mg base t T;refine T.d_19.F.ok sc_19 ∅ ?_;rintro cdv A outer s H vs Q E hr ⟨a,bx,w,rfl,d,b,ns,hA,hB,hG,hf,hd,w1,w8,q⟩;refine ⟨_,
   (XSs.h
   (ai
    (d5 (i:=3) sc_19.nd rfl ll rfl Jl (tns:=["operand"]) (cns:=["boxes"]) (ci:=[1]) rfl (CompSc.of Jl) (jE (ap T.d_14 G_14 hr.m (aa (yqv 0 vl) ac) gl)) (fun _=>(aH (i:=1) (show List.Nodup [(".0":Str),("operand":Str),("boxes":Str)] by decide +kernel) rfl ll (Or.inr Jl))) (fun _=>cC) (fun _=>(ap T.d_18 G_18 hr.m (aa (yqv 1 vl) (aa (yqv 2 vc) ac)) gl)))
   (ai
    (aG (av aR (aB aD gl T.z_len PySem.boot_len (aa (yqv 3 vl) ac)) ae (aA _))
     (ak
      (au (am aS (yqv 3 vl) ae)))
     aC)
   (ak
    (au (ap T.d_13 G_13 hr.m (aa (am aw (yqv 0 vl) ae) (aa (am aS (yqv 3 vl) ae) (aa (am aS (yqv 3 vl) ae) (aa (yqv 2 vl) ac)))) gl)))))),?_⟩
 rw [show aL _ [V.ref a,V.ref bx,V.int w]=[some (.ref a),some (.ref bx),some (.int w),none] from rfl];rwa [z7];refine zAC d hA hf fun p hp=>⟨⟨_,SqT.of aj⟩,fun acc hacc bk=>?_⟩;have s1:Same H (upd H p (.tup ((gJ d).map Opd.v))):=Same.upd hp;refine AZ (xs:=(gJ d).map Opd.v) (fun x=>match x with | .int i=>.int i | .str n=>.int (aJ b n) | _=>.non) (by rw [sizeLine_eq,zq1];have:=pE (d:=d);omega) (SqT.of aj) hacc (fun x hm H3 Q' s3 h=>?_) ?_
 ·obtain ⟨o,ho,rfl⟩:=zq21.mp hm;rwa [fH];refine zAH b ns w (s3 _ _ (s1 _ _ hB)) hG (w9 hd o ho) ?_
  cases o<;>exact h
 ·have em:List.map (fun x:V=>match x with | .int i=>V.int i | .str n=>V.int (aJ b n) | _=>V.non) ((gJ d).map Opd.v)=(gJ d).map fun o=>V.int (eK b o):=by
   rw [fM];refine v7 fun o _=>?_
   cases o<;>rfl
  rw [em];have s2:=s1.updN (o:=.lst ((gJ d).map fun o=>V.int (eK b o))) hacc;have hA2:=s2.seqT hA;have hL:upd (upd H p (.tup ((gJ d).map Opd.v))) acc (.lst ((gJ d).map fun o=>V.int (eK b o))) acc=some (.lst ((gJ d).map fun o=>V.int (eK b o))):=aj;have q2:=q _ s2;generalize upd (upd H p (.tup ((gJ d).map Opd.v))) acc (.lst ((gJ d).map fun o=>V.int (eK b o)))=H2 at s2 hA2 hL q2 ⊢
  cases d with
  |tell o=>exact zn _ (.inl (SqL.of hL)) (aF (fun _=>zAA _ _ (SqL.of hL) rfl q2) (fun e=>absurd rfl e))
  |copy n o=>exact zn _ (.inl (SqL.of hL)) (aF (fun _=>zAA _ _ (SqL.of hL) rfl q2) (fun e=>absurd rfl e))
  |op f n o o2=>refine zn _ (.inl (SqL.of hL)) (aF (fun e=>absurd (show ((2:Nat):Int)=1 from e) Jm) (fun _=>zAA _ _ hA2 rfl (zAA _ _ (SqL.of hL) rfl (zAA _ _ (SqL.of hL) rfl ?_))));rwa [rM];exact zAB Jn w8 q2
theorem ku{a bx:Addr}{w:Int}{H:Hp}{Q:VK}{E:XK}:uD K [.ref a,.ref bx,.int w] H Q E=∃(d:Deed)(b:Bx)(ns:List Str),SqT K H a d.vs/\H bx=some (.dK b)/\BxG ns w b/\d.fine/\Deed.good ns w d/\1<=w/\w<=8/\∀H',Same H H'->Q (.int (cY b w d)) H':=propext ⟨by rintro ⟨_,_,_,e,q⟩;cases e;exact q,fun q=>zAI _ _ _ rfl q⟩
variable {H:Hp} {c:Addr}
def WordsIn(H:Hp)(c:Addr)(ws:Bx)(ins:List Str)(w:Int):Prop:=Rd H c (.dK ws)/\∀n∈ins,∃x,j6 ws n=some x/\0<=x/\x<2 ^ w.toNat
theorem WordsIn.get{ws:Bx}{ins:List Str}{w:Int}(h:WordsIn H c ws ins w):∀n∈ins,0<=aJ ws n/\aJ ws n<2 ^ w.toNat:=fun n hn=>by obtain ⟨x,e,h0,h1⟩:=h.2 n hn;unfold aJ;rw [e];exact ⟨h0,h1⟩
theorem WordsIn.same{H':Hp}{ws:Bx}{ins:List Str}{w:Int}(h:WordsIn H c ws ins w)(s:Same H H'):WordsIn H' c ws ins w:=⟨by
 rcases h.1 with z | ⟨o,z⟩
 ·exact .inl (s _ _ z)
 ·exact .inr ⟨o,s _ _ z⟩,h.2⟩
def xh(K:W.Frag)(C:Addr)(p:Addr)(c:Addr)(H:Hp)(Q:VK):Prop:=∃(wd:Int)(ins:List Str)(oth:List Str)(ss:List Stm)(a:Addr)(b:Addr)(r:Addr)(xs:List V)(f:List Addr)(ws:Bx),ProgAt K C H p wd ins oth ss a b r xs f/\WordsIn H c ws ins wd/\(ins++oth).length<=1000/\
 ∀l H',Same H H'->H l=none->H' l=some (.dK (aK ins ws (ins++oth)))->Q (.ref l) H'
def pX(K:W.Frag)(C:Addr):Sp:=fun vs H Q _=>∃(p:Addr)(c:Addr),vs=[.ref p,.ref c]/\xh K C p c H Q
theorem pz(T:Txt K mg t):FnOk P w K mg base CX0 1 t.f_29 t.e_29 ["program","words"] (pX K t.C_Program):=by
 refine T.d_29.F.ok sc_29 ∅ ?_;rintro cdv A outer s H vs Q E hr ⟨p,c,rfl,wd,ins,oth,ss,a,b,r,xs,f,ws,hP,hW,hl,q⟩;have hu:=cT hr;refine ⟨_,
   (XSs.h
   (ai
    (ay (i:=2) sc_29.nd rfl ll j7)
   (ai
    (bu PassesOwn.never rfl (b9 (aN (yqv 0 vl) rfl)) (aH (i:=3) sc_29.nd rfl ll)
     (ak
      (de hu (yqv 2 vl) (yqv 3 vl) (cM (av du (yqv 3 vl) (aN (yqv 0 vl) rfl) rfl) (cu hu (yqv 1 vl) (yqv 3 vl) (fun _ _=>rfl)) ae) rfl)))
   (ak
    (au (yqv 2 vl)))))),?_⟩
 rw [show aL _ [V.ref p,V.ref c]=[some (.ref p),some (.ref c),none,none] from rfl];rwa [];intro l hl0;have s1:Same H (upd H l (.dK [])):=Same.upd hl0;obtain ⟨dx,hob⟩:=hP.ob;refine cn (s1 _ _ hob) T.c_Program.cl T.n_Program_boxes rfl ?_;refine zAC b rfl ⟨_,SqL.of (s1 _ _ hP.bx)⟩ ?_;refine cA (xs:=(ins++oth).map V.str) (fun i σ H'=>Same H H'/\H' l=some (.dK (aK ins ws ((ins++oth).take i)))/\∃o,σ=[some (.ref p),some (.ref c),some (.ref l),o])
  (zAB s1 aj ⟨_,rfl⟩) (fun i σ H' _ h=>SqL.of (h.1 _ _ hP.bx)) ?_ ?_
 ·rintro i x σ H' hx ⟨sm,hd,o,rfl⟩;rw [cf] at hx;obtain ⟨n,hn,rfl⟩:=zq27.mp hx;obtain ⟨hi,hne⟩:=zq10.mp hn;rwa [];obtain ⟨dx,hob⟩:=hP.ob;refine cn (sm _ _ hob) T.c_Program.cl T.n_Program_ins rfl ?_;rwa [];have en:aK ins ws ((ins++oth).take (i+1))=cv (aK ins ws ((ins++oth).take i)) (.inr n) (.int (if n∈ins then aJ ws n else 0)):=by rw [eN hi,hne,eD]
  have lb:(aK ins ws ((ins++oth).take i)).length<sizeLine:=by have:=(gk hW.get _ ((ins++oth).take i) rfl).2.1;rw [dE] at this;rw [sizeLine_eq];omega
  refine zAF _ (.inl (SqL.of (sm _ _ hP.ia))) rfl gv ?_;rw [jv];refine aF (fun e=>?_) (fun e=>?_)
  ·obtain ⟨x,hx,_⟩:=hW.2 n e;have hx2:aJ ws n=x:=by unfold aJ;rw [hx];rfl
   rw [if_pos e,hx2] at en;refine zAA c (.int x) rfl (.inl (zAA ws (.inr n) (hW.same sm).1 rfl (A4 hx).symm)) (zAF _ (DPut.k (k:=.inr n) hd lb) (sm.updM hl0) ?_ ⟨_,rfl⟩);rw [aj,en]
  ·rw [if_neg e] at en;refine zAF _ (DPut.k (k:=.inr n) hd lb) (sm.updM hl0) ?_ ⟨_,rfl⟩;rw [aj,en]
 ·rintro σ H' ⟨sm,hd,o,rfl⟩;rwa [];rw [zq1,eO] at hd;exact q l H' sm hl0 hd
theorem iA{C p:Addr}{Q:VK}{E:XK}:pX K C [.ref p,.ref c] H Q E=∃(wd:Int)(ins oth:List Str)(ss:List Stm)(a b r:Addr)(xs:List V)(f:List Addr)(ws:Bx),ProgAt K C H p wd ins oth ss a b r xs f/\WordsIn H c ws ins wd/\(ins++oth).length<=1000/\
  ∀l H',Same H H'->H l=none->H' l=some (.dK (aK ins ws (ins++oth)))->Q (.ref l) H':=propext ⟨by rintro ⟨_,_,e,q⟩;cases e;exact q,fun q=>zAD _ _ rfl q⟩
variable {E:XK} {Q:VK}
def Gk(wd:Int)(lf bx td:Addr):List (Str×V):=[("width",.int wd),("left",.ref lf),("boxes",.ref bx),("told",.ref td)]
structure RunH(K:W.Frag)(C:Addr)(H0 H:Hp)(p lf bx td:Addr)(wd:Int)(st:Stt):Prop where
 same:Same H0 H
 ob:∃dx,H p=some (.ins C dx (Gk wd lf bx td))
 rows:∃xs,H lf=some (.lst xs)/\Paired (fun x s=>∃f,StmV K H0 x s f) xs.reverse st.left
 bxs:H bx=some (.dK st.bx)
 tds:H td=some (.lst (st.told.map V.int))
 fr:H0 p=none/\H0 lf=none/\H0 bx=none/\H0 td=none
 ne:lf≠td
section
variable {K:W.Frag} {C p lf bx td:Addr} {H0 H H':Hp} {wd:Int} {st:Stt}
theorem RunH.mv(h:RunH K C H0 H p lf bx td wd st)(s:Same H H'):RunH K C H0 H' p lf bx td wd st:=
 ⟨h.same.trans s,let ⟨dx,e⟩:=h.ob;⟨dx,s _ _ e⟩,let ⟨xs,e,r⟩:=h.rows;(zn xs (s _ _ e) r),s _ _ h.bxs,s _ _ h.tds,h.fr,h.ne⟩
theorem RunH.left(h:RunH K C H0 H p lf bx td wd st){xs:List V}{l:List Stm}(r:Paired (fun x s=>∃f,StmV K H0 x s f) xs.reverse l):RunH K C H0 (upd H lf (.lst xs)) p lf bx td wd ⟨l,st.bx,st.told⟩:=by obtain ⟨dx,e⟩:=h.ob;obtain ⟨zs,ez,_⟩:=h.rows;exact ⟨h.same.updM h.fr.2.1,⟨dx,by rw [aq (bN e ez (by intro z;cases z))];exact e⟩,zn xs aj r,by rw [aq (bN h.bxs ez (by intro z;cases z))];exact h.bxs,by rw [aq h.ne.symm];exact h.tds,h.fr,h.ne⟩
theorem RunH.putB(h:RunH K C H0 H p lf bx td wd st){b:Bx}:RunH K C H0 (upd H bx (.dK b)) p lf bx td wd ⟨st.left,b,st.told⟩:=by obtain ⟨dx,e⟩:=h.ob;obtain ⟨zs,ez,r⟩:=h.rows;exact ⟨h.same.updM h.fr.2.2.1,⟨dx,by rw [aq (bN e h.bxs (by intro z;cases z))];exact e⟩,zn zs (by rw [aq (bN ez h.bxs (by intro z;cases z))];exact ez) r,aj,by rw [aq (bN h.tds h.bxs (by intro z;cases z))];exact h.tds,h.fr,h.ne⟩
theorem RunH.putT(h:RunH K C H0 H p lf bx td wd st){t:List Int}:RunH K C H0 (upd H td (.lst (t.map V.int))) p lf bx td wd ⟨st.left,st.bx,t⟩:=by obtain ⟨dx,e⟩:=h.ob;obtain ⟨zs,ez,r⟩:=h.rows;exact ⟨h.same.updM h.fr.2.2.2,⟨dx,by rw [aq (bN e h.tds (by intro z;cases z))];exact e⟩,zn zs (by rw [aq h.ne];exact ez) r,by rw [aq (bN h.bxs h.tds (by intro z;cases z))];exact h.bxs,aj,h.fr,h.ne⟩
end
def AW(K:W.Frag)(C:Addr)(p:Addr)(H:Hp)(Q:VK):Prop:=∃(H0:Hp)(lf:Addr)(bx:Addr)(td:Addr)(wd:Int)(st:Stt),RunH K C H0 H p lf bx td wd st/\∀H',Same H H'->Q (.bl (decide (st.left.length=0))) H'
def uG(K:W.Frag)(C:Addr):Sp:=fun vs H Q _=>∃(p:Addr),vs=[.ref p]/\AW K C p H Q
def xg(K:W.Frag)(C:Addr)(p:Addr)(r:Addr)(H:Hp)(Q:VK):Prop:=∃(H0:Hp)(lf:Addr)(bx:Addr)(td:Addr)(wd:Int)(st:Stt)(ys:List V)(ss:List Stm)(f:List Addr),RunH K C H0 H p lf bx td wd st/\H0 r=some (.lst ys)/\StmsV K H0 ys ss f/\st.left.length+ss.length<=10000000/\
 ∀H',RunH K C H0 H' p lf bx td wd ⟨ss++st.left,st.bx,st.told⟩->Q .non H'
def pS(K:W.Frag)(C:Addr):Sp:=fun vs H Q _=>∃(p:Addr)(r:Addr),vs=[.ref p,.ref r]/\xg K C p r H Q
def AU(K:W.Frag)(C:Addr)(p:Addr)(q:Addr)(H:Hp)(Q:VK):Prop:=∃(H0:Hp)(lf:Addr)(bx:Addr)(td:Addr)(wd:Int)(st:Stt)(ns:List Str)(n:Str)(a:List Stm)(f:List Addr),RunH K C H0 H p lf bx td wd st/\StmV K H0 (.ref q) (.whl n a) f/\BxG ns wd st.bx/\n∈ns/\st.left.length+a.length<=9000000/\
 ∀H',RunH K C H0 H' p lf bx td wd ⟨if aJ st.bx n≠0 then a++.whl n a::st.left else st.left,st.bx,st.told⟩->Q .non H'
def uB(K:W.Frag)(C:Addr):Sp:=fun vs H Q _=>∃(p:Addr)(q:Addr),vs=[.ref p,.ref q]/\AU K C p q H Q
def vi(K:W.Frag)(C:Addr)(p:Addr)(q:Addr)(H:Hp)(Q:VK):Prop:=∃(H0:Hp)(lf:Addr)(bx:Addr)(td:Addr)(wd:Int)(st:Stt)(ns:List Str)(d:Deed),RunH K C H0 H p lf bx td wd st/\SqT K H q d.vs/\d.fine/\Deed.good ns wd d/\BxG ns wd st.bx/\1<=wd/\wd<=8/\st.told.length<=1000000/\
 ∀H',RunH K C H0 H' p lf bx td wd ⟨st.left,doB wd d st.bx,doT wd d st.bx st.told⟩->Q .non H'
def m9(K:W.Frag)(C:Addr):Sp:=fun vs H Q _=>∃(p:Addr)(q:Addr),vs=[.ref p,.ref q]/\vi K C p q H Q
theorem d9{H0:Hp}{xs:List V}{l:List Stm}(r:Paired (fun x s=>∃f,StmV K H0 x s f) xs.reverse l):xs.length=l.length:=by have:=r.length;rw [AI] at this;exact this
theorem Bs(T:Txt K mg t):FnOk P w K mg base CX0 1 t.f_31 t.e_31 ["self"] (uG K t.C_Run):=by
 refine T.d_31.F.ok HR ∅ ?_;rintro cdv A outer s H vs Q E hr ⟨p,rfl,H0,lf,bx,td,wd,st,hR,q⟩;refine ⟨_,
   (XSs.h
   (ak
    (au (aW (mV (n:=0) (vB Jm hr)) (aN (yqv 0 vl) rfl) (aT ac) (aA _))))),?_⟩
 rw [show aL _ [V.ref p]=[some (.ref p)] from rfl];rwa [];obtain ⟨dx,e⟩:=hR.ob;obtain ⟨xs,ex,r⟩:=hR.rows;refine cn e T.c_Run.cl T.n_Run_left rfl ?_;intro l hl;have lx:=d9 r;have s1:=Same.upd (o:=.lst []) hl;refine zn (decide (st.left.length=0)) ?_ (q _ s1)
 by_cases h:xs.length=0
 ·have z:=Rq.lists (K:=K) (H:=upd H l (.lst [])) (n:=0) (a:=lf) (b:=l) (xs:=xs) (ys:=[]) (fun _=>true) (SqL.of (s1 _ _ ex)) (SqL.of aj) h (fun j x y hx hy=>by simp at hy);rw [h] at z;rw [decide_eq_true Jn];exact z
 ·rw [decide_eq_false Jn];exact Rq.lens (SqL.of (s1 _ _ ex)) (SqL.of aj) h
theorem pv(T:Txt K mg t):FnOk P w K mg base CX0 1 t.f_35 t.e_35 ["self","rows"] (pS K t.C_Run):=by
 refine T.d_35.F.ok HU ∅ ?_;rintro cdv A outer s H vs Q E hr ⟨p,r,rfl,H0,lf,bx,td,wd,st,ys,ss,f,hR,hr0,hS,hl,q⟩;refine ⟨_,
   (XSs.h
   (ak
    (aY (c5 PySem.F.plainAttrs_list PySem.F.slot_list_extend PySem.F.type_list_extend vR (aN (yqv 0 vl) rfl) (aa (jk rfl T.z_list T.z_reversed (aa (yqv 1 vl) ac) gl gl) ac))))),?_⟩
 rw [show aL _ [V.ref p,V.ref r]=[some (.ref p),some (.ref r)] from rfl];rwa [];obtain ⟨dx,e⟩:=hR.ob;obtain ⟨xs,ex,rr⟩:=hR.rows;have lx:=d9 rr;have ly:=hS.length;refine cn e T.c_Run.cl T.n_Run_left rfl ?_;refine ⟨.inl ⟨rfl,_,SqL.of ex⟩,zn ys (SqL.of (hR.same _ _ hr0)) fun l hl=>?_⟩;have s1:=Same.upd (o:=.lst ys.reverse) hl;refine zAX lf l xs ys.reverse rfl rfl (s1 _ _ ex) aj (by rw [AI,sizeLine_eq];omega) ?_;refine q _ ((hR.mv s1).left (st:=st) (xs:=xs++ys.reverse) (l:=ss++st.left) ?_);rw [Az,Aw];refine Paired.app ?_ rr;have key:∀{zs:List V} {us:List Stm} {g:List Addr},StmsV K H0 zs us g->Paired (fun x s=>∃f,StmV K H0 x s f) zs us:=by
  intro zs us g h
  induction zs generalizing us g with
  |nil=>cases h;exact .nil
  |cons z zs ih=>cases h with | cons h1 h2=>exact .cons ⟨_,h1⟩ (ih h2)
 exact key hS
theorem dO{C p r:Addr}{H:Hp}:pS K C [.ref p,.ref r] H Q E=∃(H0:Hp)(lf bx td:Addr)(wd:Int)(st:Stt)(ys:List V)(ss:List Stm)(f:List Addr),RunH K C H0 H p lf bx td wd st/\H0 r=some (.lst ys)/\StmsV K H0 ys ss f/\st.left.length+ss.length<=10000000/\
  ∀H',RunH K C H0 H' p lf bx td wd ⟨ss++st.left,st.bx,st.told⟩->Q .non H':=propext ⟨by rintro ⟨_,_,e,q⟩;cases e;exact q,fun q=>zAD _ _ rfl q⟩
theorem Bp(T:Txt K mg t):FnOk P w K mg base CX0 2 t.f_33 t.e_33 ["self","row"] (uB K t.C_Run):=by
 have G_35:=@pv P w K mg base t T;refine T.d_33.F.ok HS ∅ ?_;rintro cdv A outer s H vs Q E hr ⟨p,qw,rfl,H0,lf,bx,td,wd,st,ns,n,a,f,hR,hW,hG,hn,hl,q⟩;have hu:=cT hr;refine ⟨_,
   (XSs.h
   (ak
    (aG (av eF (cu hu (aN (yqv 0 vl) rfl) (am aw (yqv 1 vl) ae) (fun _ _=>rfl)) ae (aA _))
     (ai
      (aY (c5 PySem.F.plainAttrs_list PySem.F.slot_list_append PySem.F.type_list_append ba (aN (yqv 0 vl) rfl) (aa (yqv 1 vl) ac)))
     (ak
      (aY (aX T.c_Run.cl T.d_35 G_35 hr.m (yqv 0 vl) (aa (am aw (yqv 1 vl) ae) ac)))))
     aC))),?_⟩
 rw [show aL _ [V.ref p,V.ref qw]=[some (.ref p),some (.ref qw)] from rfl];rwa [dO];obtain ⟨dx,e⟩:=hR.ob;obtain ⟨xs,ex,rr⟩:=hR.rows;have lx:=d9 rr
 cases hW with
 | @whl _ ar _ ys _ f hq har hys=>
 have hq1:=hR.same.seqT hq;refine cn e T.c_Run.cl T.n_Run_boxes rfl ?_;refine zAA _ _ hq1 rfl (zAA bx _ rfl (.inl (zAA st.bx (.inr n) (.inl hR.bxs) rfl (hG.val hn).symm)) ?_);rwa [];refine fU (fun h0=>?_) (fun h0=>?_)
 ·rw [if_pos h0] at q;refine cn e T.c_Run.cl T.n_Run_left rfl ⟨.inl ⟨rfl,_,SqL.of ex⟩,zAL lf xs _ rfl rfl ex (by rw [sizeLine_eq];omega) ?_⟩;have hR2:=hR.left (xs:=xs++[.ref qw]) (l:=.whl n a::st.left) (by rw [Az];exact .cons ⟨_,.whl hq har hys⟩ rr);obtain ⟨dx2,e2⟩:=hR2.ob;refine bB e2 rfl (zAA _ _ (hR2.same.seqT hq) rfl ?_);rwa [dO];exact zBH H0 lf bx td wd _ ys a f (zAJ hR2 har hys (by show (_::st.left).length+_<=_;rw [dk];omega) fun H' h=>q H' h)
 ·rw [if_neg (fun z=>z h0)] at q;exact q _ hR
theorem kr{C p qw:Addr}{H:Hp}:uB K C [.ref p,.ref qw] H Q E=∃(H0:Hp)(lf bx td:Addr)(wd:Int)(st:Stt)(ns:List Str)(n:Str)(a:List Stm)(f:List Addr),RunH K C H0 H p lf bx td wd st/\StmV K H0 (.ref qw) (.whl n a) f/\BxG ns wd st.bx/\n∈ns/\st.left.length+a.length<=9000000/\
  ∀H',RunH K C H0 H' p lf bx td wd ⟨if aJ st.bx n≠0 then a++.whl n a::st.left else st.left,st.bx,st.told⟩->Q .non H':=propext ⟨by rintro ⟨_,_,e,q⟩;cases e;exact q,fun q=>zAD _ _ rfl q⟩
theorem vU(T:Txt K mg t):FnOk P w K mg base CX0 4 t.f_34 t.e_34 ["self","deed"] (m9 K t.C_Run):=by
 have G_19:=@tU P w K mg base t T;have G_16:=@fB P w K mg base t T;refine T.d_34.F.ok sc_34 ∅ ?_;rintro cdv A outer s H vs Q E hr ⟨p,qd,rfl,H0,lf,bx,td,wd,st,ns,d,hR,hq,hf,hd,hG,w1,w8,hl,q⟩;have hu:=cT hr;refine ⟨_,
   (XSs.h
   (ai
    (ay (i:=2) sc_34.nd rfl ll (ap T.d_19 G_19 hr.m (aa (yqv 1 vl) (aa (aN (yqv 0 vl) rfl) (aa (aN (yqv 0 vl) rfl) ac))) gl))
   (ai
    (ay (i:=3) sc_34.nd rfl ll (ap T.d_16 G_16 hr.m (aa (yqv 1 vl) ac) gl))
   (ak
    (aG (av rE (yqv 3 vl) dc (aA _))
     (ak
      (aY (c5 PySem.F.plainAttrs_list PySem.F.slot_list_append PySem.F.type_list_append ba (aN (yqv 0 vl) rfl) (aa (yqv 2 vl) ac))))
     (ak
      (de hu (aN (yqv 0 vl) rfl) (yqv 3 vl) (yqv 2 vl) rfl))))))),?_⟩
 rw [show aL _ [V.ref p,V.ref qd]=[some (.ref p),some (.ref qd),none,none] from rfl];rwa [ku,d3];obtain ⟨dx,e⟩:=hR.ob;refine cn e T.c_Run.cl T.n_Run_boxes rfl (cn e T.c_Run.cl T.n_Run_width rfl ?_);rwa [ku,d3];refine zAK d st.bx ns (zBC hq hR.bxs hG hf hd w1 w8 fun H1 s1=>zAC d (s1.seqT hq) hf ?_);have hR1:=hR.mv s1;obtain ⟨dx1,e1⟩:=hR1.ob;have few:=hG.few
 cases d with
 |tell o=>
  refine aF (fun _=>cn e1 T.c_Run.cl T.n_Run_told rfl ⟨.inl ⟨rfl,_,SqL.of hR1.tds⟩,zAL td _ _ rfl rfl hR1.tds (by rw [zq1,sizeLine_eq];omega) ?_⟩) (fun z=>absurd rfl z);have:=hR1.putT (t:=st.told++[cY st.bx wd (.tell o)]);rw [cS] at this;exact q _ this
 |copy n o=>
  refine aF (fun z=>absurd z (by intro z;cases z)) (fun _=>cn e1 T.c_Run.cl T.n_Run_boxes rfl ?_);exact zAA bx _ rfl (DPut.k (k:=.inr n) hR1.bxs (by rw [sizeLine_eq];omega)) (q _ hR1.putB)
 |op g n o o2=>refine aF (fun z=>absurd z (by intro z;cases z)) (fun _=>cn e1 T.c_Run.cl T.n_Run_boxes rfl ?_);exact zAA bx _ rfl (DPut.k (k:=.inr n) hR1.bxs (by rw [sizeLine_eq];omega)) (q _ hR1.putB)
theorem fZ{C p qd:Addr}{H:Hp}:m9 K C [.ref p,.ref qd] H Q E=∃(H0:Hp)(lf bx td:Addr)(wd:Int)(st:Stt)(ns:List Str)(d:Deed),RunH K C H0 H p lf bx td wd st/\SqT K H qd d.vs/\d.fine/\Deed.good ns wd d/\BxG ns wd st.bx/\1<=wd/\wd<=8/\st.told.length<=1000000/\
  ∀H',RunH K C H0 H' p lf bx td wd ⟨st.left,doB wd d st.bx,doT wd d st.bx st.told⟩->Q .non H':=propext ⟨by rintro ⟨_,_,e,q⟩;cases e;exact q,fun q=>zAD _ _ rfl q⟩
variable {E:XK} {H:Hp} {Q:VK} {c p pp:Addr}
def AX(K:W.Frag)(C:Addr)(p:Addr)(H:Hp)(Q:VK):Prop:=∃(H0:Hp)(lf:Addr)(bx:Addr)(td:Addr)(wd:Int)(st:Stt)(ns:List Str)(k:Nat),RunH K C H0 H p lf bx td wd st/\SG ns wd k st/\k<=5000/\¬st.left.length=0/\∀H',RunH K C H0 H' p lf bx td wd (cF wd st)->Q .non H'
def uK(K:W.Frag)(C:Addr):Sp:=fun vs H Q _=>∃(p:Addr),vs=[.ref p]/\AX K C p H Q
theorem Bw(T:Txt K mg t):FnOk P w K mg base CX0 5 t.f_32 t.e_32 ["self"] (uK K t.C_Run):=by
 have G_35:=@pv P w K mg base t T;have G_33:=@Bp P w K mg base t T;have G_34:=@vU P w K mg base t T;refine T.d_32.F.ok sc_32 ∅ ?_;rintro cdv A outer s H vs Q E hr ⟨p,rfl,H0,lf,bx,td,wd,st,ns,k,hR,hG,hk,hne,q⟩;have hu:=cT hr;refine ⟨_,
   (XSs.h
   (ai
    (ay (i:=1) sc_32.nd rfl ll (nD PySem.F.plainAttrs_list PySem.F.slot_list_pop PySem.F.type_list_pop DC (aN (yqv 0 vl) rfl)))
   (ak
    (aG (av aR (am aw (yqv 1 vl) ae) aI (aA _))
     (ak
      (aY (aX T.c_Run.cl T.d_35 G_35 hr.m (yqv 0 vl) (aa (cM (av eF (cu hu (aN (yqv 0 vl) rfl) (am aw (yqv 1 vl) ae) (fun _ _=>rfl)) ae (aA _)) (am aw (yqv 1 vl) ae) (am aw (yqv 1 vl) ae)) ac))))
     (ak
      (aG (av aR (am aw (yqv 1 vl) ae) aI (aA _))
       (ak
        (aY (aX T.c_Run.cl T.d_33 G_33 hr.m (yqv 0 vl) (aa (yqv 1 vl) ac))))
       (ak
        (aY (aX T.c_Run.cl T.d_34 G_34 hr.m (yqv 0 vl) (aa (yqv 1 vl) ac)))))))))),?_⟩
 rw [show aL _ [V.ref p]=[some (.ref p),none] from rfl];rwa [dO,kr,fZ];obtain ⟨dx,e⟩:=hR.ob;obtain ⟨xs,ex,rr⟩:=hR.rows;have lx:=d9 rr;obtain ⟨left,bb,told⟩:=st;dsimp only at rr lx hne;have ll:=hG.len;have lt:=hG.told;dsimp only at ll lt
 cases left with
 |nil=>exact absurd rfl hne
 |cons s1 ss=>
 obtain ⟨xs',x,rfl⟩:∃xs' x,xs=xs'++[x]:=⟨xs.dropLast,xs.getLast (by intro z;rw [z] at lx;simp at lx),(v8 _).symm⟩
 rw [Az] at rr;obtain ⟨hx,rr'⟩:(∃f,StmV K H0 x s1 f)/\Paired (fun x s=>∃f,StmV K H0 x s f) xs'.reverse ss:=by
  cases rr with
  |cons h t=>exact ⟨h,t⟩
 obtain ⟨f1,hx⟩:=hx;have hm:s1.many<=1000:=hG.many s1 Jo;have hgd:s1.good ns wd/\bC ns wd ss:=hG.gd;have hbx:BxG ns wd bb:=hG.bx;have hR2:=hR.left (xs:=xs') (l:=ss) rr';have hR2':RunH K t.C_Run H0 (upd H lf (.lst xs')) p lf bx td wd ⟨ss,bb,told⟩:=hR2;rw [dk] at ll;refine cn e T.c_Run.cl T.n_Run_left rfl ⟨.inl ⟨rfl,_,SqL.of ex⟩,zAL lf (xs'++[x]) x rfl rfl ex Jo ?_⟩;have edl:(xs'++[x]).dropLast=xs':=by simp
 rw [edl];obtain ⟨dx2,e2⟩:=hR2.ob;generalize upd H lf (.lst xs')=H2 at hR2 hR2' e2 ⊢;rwa [dO,kr,fZ]
 cases hx with
 | @deed qd d hf hq=>
  rwa [dO,kr,fZ];refine jT hf (hR2.same.seqT hq) Jk Jk Jk (zn _ rfl ?_);rw [if_neg zq6];refine jT hf (hR2.same.seqT hq) Jk Jk Jk (zn _ rfl ?_);rw [if_neg zq6];refine bB e2 rfl (zBD H0 lf bx td wd _ ns d (zBB hR2' (hR2.same.seqT hq) hf hgd.1 hbx hG.wd.1 hG.wd.2 (by dsimp only;omega) fun H' h=>q H' h))
 | @ifs qd ar br n ys zs a b fa fb hq ha hb hya hyb=>
  rwa [dO,kr,fZ];have hq2:=hR2.same.seqT hq;obtain ⟨hn,ga,gb⟩:n∈ns/\bC ns wd a/\bC ns wd b:=hgd.1;have la:=cU a;have lb:=cU b;simp only [Stm.many] at hm;refine zAE _ _ hq2 rfl rfl (zn true rfl ?_);rw [if_pos rfl];refine bB e2 rfl (cn e2 T.c_Run.cl T.n_Run_boxes rfl (zAA _ _ hq2 rfl (zAA bx _ rfl (.inl (zAA bb (.inr n) (.inl hR2'.bxs) rfl (hbx.val hn).symm)) ?_)));have q2:∀H',RunH K t.C_Run H0 H' p lf bx td wd ⟨(if aJ bb n≠0 then a else b)++ss,bb,told⟩->Q .non H':=q;rwa [];refine fU (fun h0=>zAA _ _ hq2 rfl ?_) (fun h0=>zAA _ _ hq2 rfl ?_)
  ·rwa [dO];rw [if_pos h0] at q2;exact zBH H0 lf bx td wd _ ys a fa (zAJ hR2' ha hya (by dsimp only;omega) fun H' h=>q2 H' h)
  ·rwa [dO];rw [if_neg (fun z=>z h0)] at q2;exact zBH H0 lf bx td wd _ zs b fb (zAJ hR2' hb hyb (by dsimp only;omega) fun H' h=>q2 H' h)
 | @whl qd ar n ys a f hq ha hy=>have hq2:=hR2.same.seqT hq;obtain ⟨hn,ga⟩:n∈ns/\bC ns wd a:=hgd.1;have la:=cU a;simp only [Stm.many] at hm;rwa [dO,kr,fZ];refine zAE _ _ hq2 rfl rfl (zn false Jk ?_);rw [if_neg zq6];refine zAE _ _ hq2 rfl rfl (zn true rfl ?_);rw [if_pos rfl];exact bB e2 rfl (zBO H0 lf bx td wd _ ns n a _ (zAQ hR2' (.whl hq ha hy) hbx hn (by dsimp only;omega) fun H' h=>q H' h))
theorem zh{C:Addr}:uK K C [.ref p] H Q E=∃(H0:Hp)(lf bx td:Addr)(wd:Int)(st:Stt)(ns:List Str)(k:Nat),RunH K C H0 H p lf bx td wd st/\SG ns wd k st/\k<=5000/\¬st.left.length=0/\∀H',RunH K C H0 H' p lf bx td wd (cF wd st)->Q .non H':=propext ⟨by rintro ⟨_,e,q⟩;cases e;exact q,fun q=>zn _ rfl q⟩
theorem z8{C:Addr}:uG K C [.ref p] H Q E=∃(H0:Hp)(lf bx td:Addr)(wd:Int)(st:Stt),RunH K C H0 H p lf bx td wd st/\∀H',Same H H'->Q (.bl (decide (st.left.length=0))) H':=propext ⟨by rintro ⟨_,e,q⟩;cases e;exact q,fun q=>zn _ rfl q⟩
def xn(K:W.Frag)(C CP:Addr)(p:Addr)(pp:Addr)(c:Addr)(H:Hp)(Q:VK):Prop:=∃(H0:Hp)(dx:Addr)(wd:Int)(ins:List Str)(oth:List Str)(ss:List Stm)(a:Addr)(b:Addr)(r:Addr)(xs:List V)(f:List Addr)(ws:Bx),Same H0 H/\H0 p=none/\H p=some (.ins C dx [])/\
 ProgAt K CP H0 pp wd ins oth ss a b r xs f/\WordsIn H0 c ws ins wd/\(ins++oth).length<=1000/\ss.length<=1000/\
 ∀lf bx td H',RunH K C H0 H' p lf bx td wd ⟨ss,aK ins ws (ins++oth),[]⟩->Q .non H'
def qi(K:W.Frag)(C CP:Addr):Sp:=fun vs H Q _=>∃(p:Addr)(pp:Addr)(c:Addr),vs=[.ref p,.ref pp,.ref c]/\xn K C CP p pp c H Q
theorem yo(T:Txt K mg t):FnOk P w K mg base CX0 2 t.f_30 t.e_30 ["self","program","words"] (qi K t.C_Run t.C_Program):=by
 have G_29:=@pz P w K mg base t T;refine T.d_30.F.ok HQ ∅ ?_;rintro cdv A outer s H vs Q E hr ⟨p,pp,c,rfl,H0,dx,wd,ins,oth,ss,a,b,r,xs,f,ws,s0,hp0,hp,hP,hW,hl,hs,q⟩;refine ⟨_,
   (XSs.h
   (ai
    (bR (yqv 0 vl) (aN (yqv 1 vl) rfl) rfl)
   (ai
    (bR (yqv 0 vl) (jk rfl T.z_list T.z_reversed (aa (aN (yqv 1 vl) rfl) ac) gl gl) rfl)
   (ai
    (bR (yqv 0 vl) (ap T.d_29 G_29 hr.m (aa (yqv 1 vl) (aa (yqv 2 vl) ac)) gl) rfl)
   (ak
    (bR (yqv 0 vl) (aT ac) rfl)))))),?_⟩
 rw [show aL _ [V.ref p,V.ref pp,V.ref c]=[some (.ref p),some (.ref pp),some (.ref c)] from rfl];rwa [iA];obtain ⟨dxp,hob⟩:=hP.ob;refine cn (s0 _ _ hob) T.c_Program.cl T.n_Program_width rfl (fu hp T.c_Run.cl T.n_Run_width Jo ?_);rw [bV Jp,sG];have s1:=s0.updM (o:=.ins t.C_Run dx [("width",V.int wd)]) hp0;have e1:upd H p (.ins t.C_Run dx [("width",V.int wd)]) p=some (.ins t.C_Run dx [("width",V.int wd)]):=aj;generalize upd H p (.ins t.C_Run dx [("width",V.int wd)])=H1 at s1 e1 ⊢;rwa [iA];refine cn (s1 _ _ hob) T.c_Program.cl T.n_Program_rows rfl (zAA r xs rfl (SqL.of (s1 _ _ hP.rs)) fun lf hlf=>?_);have f2:=s1.free hlf;have s2:=s1.updN (o:=.lst xs.reverse) hlf;have nlf:p≠lf:=ao e1 hlf;have g2:upd H1 lf (.lst xs.reverse) lf=some (.lst xs.reverse):=aj;have e2:upd H1 lf (.lst xs.reverse) p=some (.ins t.C_Run dx [("width",V.int wd)]):=by rw [aq nlf];exact e1
 generalize upd H1 lf (.lst xs.reverse)=H2 at s2 g2 e2 ⊢;refine fu e2 T.c_Run.cl T.n_Run_left Jo ?_;rw [bV Jl];have s3:=s2.updM (o:=.ins t.C_Run dx ([(("width":Str),V.int wd)]++[(("left":Str),V.ref lf)])) hp0;have e3:upd H2 p (.ins t.C_Run dx ([(("width":Str),V.int wd)]++[(("left":Str),V.ref lf)])) p=some (.ins t.C_Run dx ([(("width":Str),V.int wd)]++[(("left":Str),V.ref lf)])):=aj;have g3:upd H2 p (.ins t.C_Run dx ([(("width":Str),V.int wd)]++[(("left":Str),V.ref lf)])) lf=some (.lst xs.reverse):=by rw [aq nlf.symm];exact g2
 generalize upd H2 p (.ins t.C_Run dx ([(("width":Str),V.int wd)]++[(("left":Str),V.ref lf)]))=H3 at s3 e3 g3 ⊢;rwa [iA];refine zBO wd ins oth ss a b r xs f ws (zAG (hP.same s3) (hW.same s3) hl fun bx H4 s4 hbx gb=>?_);refine fu (s4 _ _ e3) T.c_Run.cl T.n_Run_boxes Jo ?_;rw [bV Jl];have nbx:bx≠p:=(ao e3 hbx).symm;have fb:=s3.free hbx;have s5:=(s3.trans s4).updM (o:=.ins t.C_Run dx ([(("width":Str),V.int wd)]++[(("left":Str),V.ref lf)]++[(("boxes":Str),V.ref bx)])) hp0;have e5:upd H4 p (.ins t.C_Run dx ([(("width":Str),V.int wd)]++[(("left":Str),V.ref lf)]++[(("boxes":Str),V.ref bx)])) p=some (.ins t.C_Run dx ([(("width":Str),V.int wd)]++[(("left":Str),V.ref lf)]++[(("boxes":Str),V.ref bx)])):=aj;have g5:upd H4 p (.ins t.C_Run dx ([(("width":Str),V.int wd)]++[(("left":Str),V.ref lf)]++[(("boxes":Str),V.ref bx)])) lf=some (.lst xs.reverse):=by rw [aq nlf.symm];exact s4 _ _ g3
 have b5:upd H4 p (.ins t.C_Run dx ([(("width":Str),V.int wd)]++[(("left":Str),V.ref lf)]++[(("boxes":Str),V.ref bx)])) bx=some (.dK (aK ins ws (ins++oth))):=by rw [aq nbx];exact gb
 generalize upd H4 p (.ins t.C_Run dx ([(("width":Str),V.int wd)]++[(("left":Str),V.ref lf)]++[(("boxes":Str),V.ref bx)]))=H5 at s5 e5 g5 b5 ⊢;rwa [];intro td htd;have ntd:p≠td:=ao e5 htd;have ft:=s5.free htd;have s6:=Same.upd (o:=.lst []) htd;refine fu (s6 _ _ e5) T.c_Run.cl T.n_Run_told Jo ?_;rw [bV Jl];refine q lf bx td _ ⟨(s5.trans s6).updM hp0,⟨dx,aj⟩,zn xs.reverse ?_ ?_,?_,?_,zAG hp0 f2 fb ft,ao g5 htd⟩
 ·rw [aq nlf.symm];exact s6 _ _ g5
 ·rw [Aw];have key:∀{zs:List V} {us:List Stm} {g:List Addr},StmsV K H0 zs us g->Paired (fun x s=>∃f,StmV K H0 x s f) zs us:=by
   intro zs us g h
   induction zs generalizing us g with
   |nil=>cases h;exact .nil
   |cons z zs ih=>cases h with | cons h1 h2=>exact .cons ⟨_,h1⟩ (ih h2)
  exact key hP.st
 ·rw [aq nbx];exact s6 _ _ b5
 ·rw [aq ntd.symm];exact aj
theorem uk{C CP:Addr}:qi K C CP [.ref p,.ref pp,.ref c] H Q E=∃(H0:Hp)(dx:Addr)(wd:Int)(ins oth:List Str)(ss:List Stm)(a b r:Addr)(xs:List V)(f:List Addr)(ws:Bx),Same H0 H/\H0 p=none/\H p=some (.ins C dx [])/\
  ProgAt K CP H0 pp wd ins oth ss a b r xs f/\WordsIn H0 c ws ins wd/\(ins++oth).length<=1000/\ss.length<=1000/\
  ∀lf bx td H',RunH K C H0 H' p lf bx td wd ⟨ss,aK ins ws (ins++oth),[]⟩->Q .non H':=propext ⟨by rintro ⟨_,_,_,e,q⟩;cases e;exact q,fun q=>zAI _ _ _ rfl q⟩
def ProgIn(K:W.Frag)(C:Addr)(H:Hp)(pp c:Addr)(wd:Int)(ins oth:List Str)(ss:List Stm)(ws:Bx):Prop:=(∃a b r xs f,ProgAt K C H pp wd ins oth ss a b r xs f)/\WordsIn H c ws ins wd/\1<=wd/\wd<=8/\(ins++oth).length<=1000/\bC (ins++oth) wd ss/\bq ss<=1000
def zF(K:W.Frag)(C:Addr):Sp:=fun vs H Q _=>∃(pp c:Addr)(m wd:Int)(ins oth:List Str)(ss:List Stm)(ws:Bx),vs=[.ref pp,.ref c,.int m]/\ProgIn K C H pp c wd ins oth ss ws/\m<=2100/\
 ∀p td bx H',Same H H'->H td=none->H bx=none->H' p=some (.tup [.ref td,.ref bx,.bl (decide ((cw wd m.toNat ⟨ss,aK ins ws (ins++oth),[]⟩).left.length=0))])->H' td=some (.lst ((cw wd m.toNat ⟨ss,aK ins ws (ins++oth),[]⟩).told.map V.int))->H' bx=some (.dK (cw wd m.toNat ⟨ss,aK ins ws (ins++oth),[]⟩).bx)->Q (.ref p) H'
theorem ProgIn.sg{C:Addr}{wd:Int}{ins oth:List Str}{ss:List Stm}{ws:Bx}(h:ProgIn K C H pp c wd ins oth ss ws):SG (ins++oth) wd 0 ⟨ss,aK ins ws (ins++oth),[]⟩:=
 ⟨⟨h.2.2.1,h.2.2.2.1⟩,je h.2.1.get h.2.2.2.2.1,h.2.2.2.2.2.1,fun x hx=>cR (ir hx) h.2.2.2.2.2.2,by have:=cU ss;have:=h.2.2.2.2.2.2;dsimp only;omega,zq0 _,fun x hx=>by cases hx⟩
theorem DL(T:Txt K mg t):FnOk P w K mg base CX0 6 t.f_36 t.e_36 ["program","words","most"] (zF K t.C_Program):=by
 have G_30:=@yo P w K mg base t T;have G_31:=@Bs P w K mg base t T;have G_32:=@Bw P w K mg base t T;refine T.d_36.F.ok sc_36 ∅ ?_;rintro cdv A outer s H vs Q E hr ⟨pp,c,m,wd,ins,oth,ss,ws,rfl,hI,hm,q⟩;refine ⟨_,
   (XSs.h
   (ai
    (ay (i:=3) sc_36.nd rfl ll (gH T.c_Run T.d_30 G_30 hr.m (aa (yqv 0 vl) (aa (yqv 1 vl) ac)) gl))
   (ai
    (ay (i:=4) sc_36.nd rfl ll ae)
   (ai
    (fm PassesOwn.never (bP (dR (av dg (yqv 4 vl) (yqv 2 vl) (aA _)) (df (bj (aZ (dw T.c_Run.cl T.d_31 G_31 hr.m (yqv 3 vl)))))))
     (ai
      (aY (dw T.c_Run.cl T.d_32 G_32 hr.m (yqv 3 vl)))
     (ak
      (ay (i:=4) sc_36.nd rfl ll (ax bw (yqv 4 vl) ae)))))
   (ak
    (au (aP (aa (aN (yqv 3 vl) rfl) (aa (aN (yqv 3 vl) rfl) (aa (dw T.c_Run.cl T.d_31 G_31 hr.m (yqv 3 vl)) ac)))))))))),?_⟩
 rw [show aL _ [V.ref pp,V.ref c,V.int m]=[some (.ref pp),some (.ref c),some (.int m),none,none] from rfl];rwa [uk,z8,zh];intro p dx hp hdx hne;obtain ⟨⟨a,b,r,xs,f,hP⟩,hW,w1,w8,hl,hg,hmany⟩:=id hI;have sg:=hI.sg;have s1:Same H (upd (upd H dx (.own p)) p (.ins t.C_Run dx [])):=(Same.upd hdx).updM hp;simp only [uk];refine ⟨H,dx,wd,ins,oth,ss,a,b,r,xs,f,ws,s1,hp,aj,hP,hW,hl,by have:=cU ss;omega,fun lf bx td H1 hR=>⟨trivial,?_⟩⟩;generalize (⟨ss,aK ins ws (ins++oth),[]⟩:Stt)=st0 at sg hR q;refine j5 (fun σ H'=>∃i:Nat,(i:Int)<=max m 0/\RunH K t.C_Run H H' p lf bx td wd (cw wd i st0)/\σ=[some (.ref pp),some (.ref c),some (.int m),some (.ref p),some (.int i)])
  (fun (σ:L2.St) H'=>match (σ[4]?).join with | some (V.int i)=>(m-i).toNat | _=>0) (zAC 0 Jn hR rfl) ?_
 rintro σ H2 ⟨i,hi,hR2,rfl⟩;have sgi:=sg.run i;rwa [z8,zh];have fin:∀H3,RunH K t.C_Run H H3 p lf bx td wd (cw wd i st0)->cw wd m.toNat st0=cw wd i st0->gW K (V.ref p) "told" H3 fun x H1=>gW K (V.ref p) "boxes" H1 fun x_1 H1=>jH t.C_Run "is_over" (V.ref p) H1 (∃H0 lf bx td wd st,RunH K t.C_Run H0 H1 p lf bx td wd st/\∀H',Same H1 H'->∀(p:Addr),H' p=none->Q (V.ref p) (upd H' p (HO.tup [x,x_1,V.bl (decide (st.left.length=0))]))):=by intro H3 hR3 he;obtain ⟨dx3,e3⟩:=hR3.ob;refine cn e3 T.c_Run.cl T.n_Run_told rfl (cn e3 T.c_Run.cl T.n_Run_boxes rfl (bB e3 rfl (zAZ H lf bx td wd _ ⟨hR3,fun H4 s4 u hu=>?_⟩)));have hR4:=hR3.mv s4;have s5:=Same.upd (o:=.tup [V.ref td,V.ref bx,V.bl (decide ((cw wd i st0).left.length=0))]) hu;rw [he] at q;exact q u td bx _ (hR4.same.trans s5) hR4.fr.2.2.2 hR4.fr.2.2.1 aj (s5 _ _ hR4.tds) (s5 _ _ hR4.bxs)
 refine aF (fun h1=>?_) (fun h1=>?_)
 ·obtain ⟨dx2,e2⟩:=hR2.ob;refine bB e2 rfl (zAZ H lf bx td wd _ ⟨hR2,fun H3 s3=>?_⟩);have hR3:=hR2.mv s3;refine fU (fun h2=>?_) (fun h2=>?_)
  ·obtain ⟨dx3,e3⟩:=hR3.ob;refine ⟨fun σ' H'=>∃j:Nat,j=i+1/\RunH K t.C_Run H H' p lf bx td wd (cw wd j st0)/\σ'=[some (V.ref pp),some (V.ref c),some (V.int m),some (V.ref p),some (V.int j)],?_,?_⟩
   ·rintro σ' H' ⟨j,rfl,hRj,rfl⟩;refine zAC _ ?_ rfl (zAC (i+1) Jn hRj rfl);show (m-((i+1:Nat):Int)).toNat<(m-(i:Int)).toNat;omega
   ·refine bB e3 rfl (zBD H lf bx td wd _ _ i (zAJ hR3 sgi Jn h2 fun H4 hR4=>zAC (i+1) rfl hR4 ?_));rfl
  ·refine fin _ hR3 ?_;have hz:(cw wd i st0).left=[]:=zq64.mp h2;exact rO hz Jn
 ·refine fin _ hR2 ?_;have:m.toNat=i:=by omega
  rw [this]
theorem Gf{C:Addr}{m:Int}:zF K C [.ref pp,.ref c,.int m] H Q E=∃(wd:Int)(ins oth:List Str)(ss:List Stm)(ws:Bx),ProgIn K C H pp c wd ins oth ss ws/\m<=2100/\
  ∀p td bx H',Same H H'->H td=none->H bx=none->H' p=some (.tup [.ref td,.ref bx,.bl (decide ((cw wd m.toNat ⟨ss,aK ins ws (ins++oth),[]⟩).left.length=0))])->H' td=some (.lst ((cw wd m.toNat ⟨ss,aK ins ws (ins++oth),[]⟩).told.map V.int))->H' bx=some (.dK (cw wd m.toNat ⟨ss,aK ins ws (ins++oth),[]⟩).bx)->Q (.ref p) H':=
 propext ⟨by rintro ⟨_,_,_,wd,ins,oth,ss,ws,e,q⟩;cases e;exact zAW wd ins oth ss ws q,by rintro ⟨wd,ins,oth,ss,ws,q⟩;exact zBD pp c m wd ins oth ss ws ⟨rfl,q⟩⟩
def aQ(ds:List FB.Deed)(j k:Nat):Option Int:=match ds[j]?,ds[k]? with
 |some d,some e=>FB.jm d e
 |_,_=>none
def zz(K:W.Frag):Sp:=fun vs H Q _=>∃(a:Addr)(xs:List V)(ds:List FB.Deed)(j k:Nat)(d e:FB.Deed),vs=[.ref a,.int j,.int k]/\SqL K H a xs/\DeedsV K H xs ds/\j<k/\ds[j]?=some d/\ds[k]?=some e/\∀H',Same H H'->Q (FB.mX (FB.jm d e)) H'
def uI(K:W.Frag):Sp:=fun vs H Q _=>∃(a:Addr)(d:FB.Deed),vs=[.ref a]/\SqT K H a d.vs/\d.fine/\∀p H',Same H H'->H p=none->H' p=some (.lst (d.reads.map V.str))->Q (.ref p) H'
theorem rG{d:FB.Deed}:List.map id (List.filter iV ((gJ d).map FB.Opd.v))=d.reads.map V.str:=by
 cases d with
 |tell o=>exact tG
 |copy n o=>exact tG
 |op f n o o2=>exact xy
theorem Bu(T:Txt K mg t):FnOk P w K mg base CX0 2 t.f_15 t.e_15 ["deed"] (uI K):=by
 have G_14:=@tV P w K mg base t T;refine T.d_15.F.ok HH ∅ ?_;rintro cdv A outer s H vs Q E hr ⟨a,d,rfl,hS,hf,q⟩;refine ⟨_,
   (XSs.h
   (ak
    (au (bT (tns:=["part"]) (cns:=[]) (ci:=[]) rfl (CompSc.of Jl) (jE (ap T.d_14 G_14 hr.m (aa (yqv 0 vl) ac) gl)) (fun _=>(aH (i:=1) (show List.Nodup [(".0":Str),("part":Str)] by decide +kernel) rfl ll (Or.inr Jl))) (fun _=>(iJ (aZ (aB bD gl T.z_isinstance boot_isinstance (aa (yqv 1 vl) (aa (bF (v:=.ty "str") gl T.z_str boot_str rfl) ac)))))) (fun _=>(yqv 1 vl)))))),?_⟩
 rw [show aL _ [V.ref a]=[some (.ref a)] from rfl];rwa [z7];refine zAC d hS hf fun p hp=>⟨⟨_,SqT.of aj⟩,fun acc hacc bk=>?_⟩;refine ic iV id (by rw [sizeLine_eq,zq1];have:=pE (d:=d);omega) (SqT.of aj) hacc (fun x hm H3 Q' s3 h=>?_) (fun x hm H3 Q' s3 _ h=>?_) ?_
 ·obtain ⟨o,_,rfl⟩:=zq21.mp hm;rwa [];exact jw (zn _ rfl h)
 ·rwa [];exact h
 ·rw [rG];exact q acc _ ((Same.upd hp).trans (Same.upd hacc)) ((Same.upd hp).free hacc) aj
theorem zc{a:Addr}{H:Hp}{Q:VK}{E:XK}:uI K [.ref a] H Q E=∃d:FB.Deed,SqT K H a d.vs/\d.fine/\∀p H',Same H H'->H p=none->H' p=some (.lst (d.reads.map V.str))->Q (.ref p) H':=propext ⟨by rintro ⟨_,d,e,q⟩;cases e;exact ⟨d,q⟩,by rintro ⟨d,q⟩;exact zAD a d rfl q⟩
theorem xM{d:FB.Deed}{ns:List Str}:inV (wrV d) (ns.map V.str)=decide (∃n∈d.writes,n∈ns):=by
 have hn:∀ns:List Str,inV .non (ns.map V.str)=false:=fun ns=>by
  induction ns with
  |nil=>rfl
  |cons m ns ih=>unfold inV at ih ⊢;rw [dh,qM,ih];rfl
 cases d with
 |tell o=>show inV .non _=_;rw [hn];simp [FB.Deed.writes]
 |copy n o=>show inV (.str n) _=_;rw [jv];simp [FB.Deed.writes]
 |op f n o o2=>show inV (.str n) _=_;rw [jv];simp [FB.Deed.writes]
theorem DF(T:Txt K mg t):FnOk P w K mg base CX0 10 t.f_22 t.e_22 ["deeds","j","k"] (zz K):=by
 have G_15:=@Bu P w K mg base t T;have G_16:=@fB P w K mg base t T;refine T.d_22.F.ok sc_22 ∅ ?_;rintro cdv A outer s H vs Q E hr ⟨a,xs,ds,j,k,d,e,rfl,hS,hds,hjk,hd,he,q⟩;refine ⟨_,
   (XSs.h
   (ai
    (ay (i:=3) sc_22.nd rfl ll (am aS (yqv 0 vl) (yqv 1 vl)))
   (ai
    (ay (i:=4) sc_22.nd rfl ll (am aS (yqv 0 vl) (yqv 2 vl)))
   (ai
    (aG (bP (dR (av aR (am aw (yqv 3 vl) ae) aI (aA _)) (df (av aR (am aw (yqv 4 vl) ae) aI (aA _)))))
     (ak
      (au ae))
     aC)
   (ai
    (ay (i:=5) sc_22.nd rfl ll (ap T.d_16 G_16 hr.m (aa (yqv 3 vl) ac) gl))
   (ai
    (aG (bP (dR (av ix (yqv 5 vl) dc (aA _)) (df (bP (bS (av du (yqv 5 vl) (ap T.d_15 G_15 hr.m (aa (yqv 4 vl) ac) gl) rfl) (cj (av aR (yqv 5 vl) (ap T.d_16 G_16 hr.m (aa (yqv 4 vl) ac) gl) (aA _))))))))
     (ak
      (au ae))
     aC)
   (ak
    (au (cM (av du (ap T.d_16 G_16 hr.m (aa (yqv 4 vl) ac) gl) (ap T.d_15 G_15 hr.m (aa (yqv 3 vl) ac) gl) rfl) ae dc))))))))),?_⟩
 rw [show aL _ [V.ref a,V.int j,V.int k]=[some (.ref a),some (.int j),some (.int k),none,none,none] from rfl];rwa [zc,d3];obtain ⟨x,hx,fd,qx,rfl,hqx⟩:=Paired.getR hds hd;obtain ⟨y,hy,fe,qy,rfl,hqy⟩:=Paired.getR hds he;refine zAA _ _ hS (bo hx) (zAA _ _ hS (bo hy) ?_);rwa [zc,d3];have fl:∀d:FB.Deed,bH (wrV d)=true:=fun d=>by cases d<;>rfl
 have nw:∀d:FB.Deed,(!decide (wrV d=V.non))=!d.tells:=fun d=>by cases d<;>rfl
 have last:∀H1,Same H H1->¬(d.tells=true/\e.tells=true)->¬(∃n∈d.writes,n∈e.reads\/n∈e.writes)->∃d0:FB.Deed,SqT K H1 qy d0.vs/\d0.fine/\∃d1:FB.Deed,SqT K H1 qx d1.vs/\d1.fine/\
   ∀p H2,Same H1 H2->H1 p=none->H2 p=some (.lst (d1.reads.map V.str))->∃xs,(SqL K H2 p xs\/SqT K H2 p xs)/\bH (wrV d0)=true/\xs.all bH=true/\if inV (wrV d0) xs=true then Q (.int 0) H2 else Q .non H2:=by
  intro H1 s1 h1 h2;refine zAC e (s1.seqT hqy) fe (zAC d (s1.seqT hqx) fd fun p H2 s2 hp hl=>zAF _ (.inl (SqL.of hl)) (fl e) gv ?_);rw [xM];unfold FB.jm at q;rw [if_neg h1,if_neg h2] at q;refine aF (fun h=>?_) (fun h=>?_)
  ·rw [if_pos h] at q;exact q _ (s1.trans s2)
  ·rw [if_neg h] at q;exact q _ (s1.trans s2)
 have wrm:∀(d e:FB.Deed),d.tells=false->(wrV d=wrV e↔∃n∈d.writes,n∈e.writes):=fun d e h=>by cases d<;>cases e<;>simp [wrV,FB.Deed.writes,FB.Deed.tells] at h ⊢
 refine ix0 fd hqx (zn _ rfl (ip (fun e1=>ix0 fe hqy (zn _ rfl (ip (fun e2=>?_) (fun e2=>?_)))) (fun e1=>?_)))
 ·unfold FB.jm at q;rw [if_pos ⟨e1,e2⟩] at q;exact q H (Same.refl H)
 ·have nt:¬(d.tells=true/\e.tells=true):=fun z=>by rw [e2] at z;exact zq6 z.2
  refine zAC d hqx fd ?_;rw [nw,e1];refine last H (Same.refl H) nt ?_;rw [Io e1];simp
 ·have nt:¬(d.tells=true/\e.tells=true):=fun z=>by rw [e1] at z;exact zq6 z.1
  refine zAC d hqx fd ?_;rw [nw,e1];refine zAC e hqy fe fun p H2 s2 hp hl=>zAF _ (.inl (SqL.of hl)) (fl d) gv ?_;rw [xM];refine aF (fun h=>?_) (fun h=>zAC e (s2.seqT hqy) fe ?_)
  ·unfold FB.jm at q;obtain ⟨n,h1,h2⟩:=h;rw [if_neg nt,if_pos ⟨n,h1,.inl h2⟩] at q;exact q _ s2
  refine ⟨by cases d<;>cases e<;>rfl,zn _ rfl (aF (fun h2=>?_) (fun h2=>?_))⟩
  ·unfold FB.jm at q;obtain ⟨n,h3,h4⟩:=(wrm d e e1).mp h2;rw [if_neg nt,if_pos ⟨n,h3,.inr h4⟩] at q;exact q _ s2
  ·refine last H2 s2 nt ?_;rintro ⟨n,h3,h4 | h4⟩
   ·exact h (zn n h3 h4)
   ·exact h2 ((wrm d e e1).mpr (zn n h3 h4))
def m6:FB.Deed->Nat
 | .op f _ _ _=>if f∈(["plus","less"]:List Str) then 0 else if f∈(["below","same"]:List Str) then 1 else if f∈(["and","or","xor"]:List Str) then 2 else 3
 |_=>3
def sV(d:FB.Deed):V:=if m6 d<3 then .int (m6 d) else .non
def Fd(ds:List FB.Deed)(p:Int):FB.Deed:=ds.getD p.toNat (.tell (.word 0))
theorem zx{d:FB.Deed}(h:d.fine):∃f:Str,atI d.vs 0=some (.str f)/\(bI kvs_SORTS (.inr f)).getD .non=sV d:=by
 cases d with
 |tell o=>exact zn ("tell") rfl Jl
 |copy n o=>exact zn ("copy") rfl Jl
 |op f n o o2=>refine zn f rfl ?_;have h:f∈FB.opsL:=h;simp only [FB.opsL,List.mem_cons,List.not_mem_nil,or_false] at h;rcases h with rfl | rfl | rfl | rfl | rfl | rfl | rfl<;>kernel_rfl
theorem Fe{d:FB.Deed}{s:Nat}(h:s<3):eqV (sV d) (.int s)=decide (m6 d=s):=by
 unfold sV
 split
 ·rw [FL.tF,sy,decide_eq_true_iff,decide_eq_true_iff];omega
 ·rw [decide_eq_false Jn];rfl
def mf(K:W.Frag):Sp:=fun vs H Q _=>∃(a:Addr)(d:FB.Deed),vs=[.ref a]/\SqT K H a d.vs/\d.fine/\Q (sV d) H
theorem vY(T:Txt K mg t)(hw:t.pr=w.params):FnOk P w K mg base CX0 1 t.f_17 t.e_17 ["deed"] (mf K):=by
 refine T.d_17.F.ok HJ ∅ ?_;rintro cdv A outer s H vs Q E hr ⟨a,d,rfl,hS,hf,q⟩;refine ⟨_,
   (XSs.h
   (ak
    (au (wY hw T.k_SORTS T.g_SORTS gl (am aw (yqv 0 vl) ae) ⟨rfl,rfl,rfl,rfl⟩)))),?_⟩
 rw [show aL _ [V.ref a]=[some (.ref a)] from rfl];rwa [];obtain ⟨f,hf0,hv⟩:=zx hf;refine zAA _ _ hS hf0 (zn (.inr f) rfl ?_);rw [hv];exact q
theorem kx{a:Addr}{H:Hp}{Q:VK}{E:XK}:mf K [.ref a] H Q E=∃d:FB.Deed,SqT K H a d.vs/\d.fine/\Q (sV d) H:=propext ⟨by rintro ⟨_,d,e,q⟩;cases e;exact ⟨d,q⟩,by rintro ⟨d,q⟩;exact zAD a d rfl q⟩
variable {H:Hp} {Q:VK} {a p:Addr} {i:Nat}
def nl(ps:List Nat):List V:=ps.map fun p:Nat=>V.int p
def soN(ds:List FB.Deed)(p:Nat):Nat:=m6 (ds.getD p (.tell (.word 0)))
def uN(us:List Int)(s:Nat):Int:=us.getD s 0
theorem jZ{j:Nat}:∀{ps:List Nat},inV (.int j) (nl ps)=decide (j∈ps)
 | []=>rfl
 |p::ps=>by have ih:=jZ (j:=j) (ps:=ps);unfold inV nl at ih ⊢;rw [dh,qM,ih,FL.tF,sy];simp only [Bool.or_eq_true,decide_eq_true_eq,List.mem_cons];exact ⟨fun h=>h.imp (fun e=>Jn) id,fun h=>h.imp (fun e=>Jn) id⟩
theorem gu:∀{ps:List Nat},(nl ps).all bH=true
 | []=>rfl
 |p::ps=>by have ih:=gu (ps:=ps);unfold nl at ih ⊢;rw [dh,sC,ih];rfl
theorem Fo{ps:List Nat}{p:Nat}(h:ps[i]?=some p):(nl ps)[i]?=some (V.int p):=by unfold nl;rw [cf,h];rfl
theorem fA{ps:List Nat}:(nl ps).length=ps.length:=by unfold nl;rw [zq1]
theorem zu{ds:List FB.Deed}{p:Nat}(h:p<ds.length):(ds.map sV)[p]?=some (sV (ds.getD p (.tell (.word 0)))):=by rw [cf,zq8 h,fN,zq8 h];rfl
theorem Di{ds:List FB.Deed}{bt:List Nat}{s:Nat}(h:s<3):B2 (.int s) (bt.map fun p=>sV (ds.getD p (.tell (.word 0))))=GD.fR (soN ds) bt s:=by unfold B2 GD.fR;rw [List.countP_map];apply List.countP_congr;intro p _;show eqV (sV (ds.getD p (.tell (.word 0)))) (.int s)=true↔_;rw [Fe h];rfl
theorem B6{d:FB.Deed}:bH (sV d)=true:=by unfold sV;split<;>rfl
def Fm(b so gp:Addr):List (Str×V):=[("units",.ref b),("sorts",.ref so),("gaps",.ref gp)]
structure LayerH(K:W.Frag)(C:Addr)(H:Hp)(p:Addr)(ds:List FB.Deed)(us:List Int):Prop where
 ob:∃(dx b so gp:Addr)(qs:List Addr),H p=some (.ins C dx (Fm b so gp))/\SqT K H b (us.map V.int)/\H so=some (.lst (ds.map sV))/\H gp=some (.lst (qs.map V.ref))/\qs.length=ds.length/\∀(k:Nat)q,qs[k]?=some q->H q=some (.lst ((List.range k).map fun j=>FB.mX (aQ ds j k)))
 h8:ds.length<=8
 h3:us.length=3
 hp:∀u∈us,0<u/\u<=3
theorem LayerH.same{K:W.Frag}{C:Addr}{H':Hp}{ds:List FB.Deed}{us:List Int}(s:Same H H')(h:LayerH K C H p ds us):LayerH K C H' p ds us:=
 ⟨let ⟨dx,b,so,gp,qs,e1,e2,e3,e4,e5,e6⟩:=h.ob;(zAV dx b so gp qs (s _ _ e1) (s.seqT e2) (s _ _ e3) (s _ _ e4) e5 fun k q hk=>s _ _ (e6 k q hk)),h.h8,h.h3,h.hp⟩
theorem LayerH.pos{K:W.Frag}{C:Addr}{ds:List FB.Deed}{us:List Int}(h:LayerH K C H p ds us):∀s,s<3->0<uN us s:=fun s hs=>by have hl:=h.h3;unfold uN;rw [fN,zq8 Jn];exact (h.hp _ (lu _)).1
def sN(K:W.Frag)(C:Addr)(p d b:Addr)(i:Int)(H:Hp)(Q:VK):Prop:=∃(ds:List FB.Deed)(us:List Int)(dn bt:List Nat)(pl:Nat),i=pl/\LayerH K C H p ds us/\SqT K H d (nl dn)/\SqL K H b (nl bt)/\pl<ds.length/\(∀q∈bt,q<ds.length)/\bt.length<=8/\∀H',Same H H'->Q (.bl (GD.bY (aQ ds) (soN ds) (uN us) dn bt pl)) H'
def uv(K:W.Frag)(C:Addr):Sp:=fun vs H Q _=>∃(p d b:Addr)(i:Int),vs=[.ref p,.ref d,.ref b,.int i]/\sN K C p d b i H Q
theorem kn{C d b:Addr}{i:Int}{E:XK}:uv K C [.ref p,.ref d,.ref b,.int i] H Q E=sN K C p d b i H Q:=propext ⟨by rintro ⟨_,_,_,_,e,q⟩;cases e;exact q,fun q=>zAP p d b i rfl q⟩
theorem ko{i j:Int}{E:XK}:zz K [.ref a,.int i,.int j] H Q E=∃(xs:List V)(ds:List FB.Deed)(m k:Nat),i=m/\j=k/\SqL K H a xs/\DeedsV K H xs ds/\m<k/\k<ds.length/\∀H',Same H H'->Q (FB.mX (aQ ds m k)) H':=propext ⟨by
  rintro ⟨_,xs,ds,m,k,d,e,ev,h1,h2,h3,h4,h5,q⟩
  cases ev
  refine zAU xs ds m k rfl rfl h1 h2 h3 (zq10.mp h5).1 ?_;unfold aQ;rw [h4,h5];exact q,by
  rintro ⟨xs,ds,m,k,rfl,rfl,h1,h2,h3,h4,q⟩;obtain ⟨d,hd⟩:∃d,ds[m]?=some d:=⟨_,zq8 Jn⟩
  obtain ⟨e,he⟩:∃e,ds[k]?=some e:=⟨_,zq8 h4⟩
  refine zBP a xs ds m k d e rfl h1 h2 h3 hd he ?_;unfold aQ at q;rw [hd,he] at q;exact q⟩
theorem ixL{xs:List V}{v:V}(h:SqL K H a xs)(hv:xs[i]?=some v)(q:Q v H):E3 K (.ref a) (.int i) H Q:=by rwa [];exact zAA _ _ h (bo hv) q
theorem ixT{xs:List V}{v:V}(h:SqT K H a xs)(hv:xs[i]?=some v)(q:Q v H):E4 K (.ref a) (.int i) H Q:=by rwa [];exact zAA _ _ h (bo hv) q
theorem tQ(T:Txt K mg t):FnOk P w K mg base CX0 1 t.f_28 t.e_28 ["self","done","beat","place"] (uv K t.C_Layer):=by
 refine T.d_28.F.ok sc_28 ∅ ?_;rintro cdv A outer s H vs Q E hr ⟨p,d,b,i,rfl,ds,us,dn,bt,pl,rfl,L,hD,hB,hpl,hbt,hlb,q⟩;obtain ⟨dx,ub,sb,gb,qs,hob,hU,hSo,hGp,hql,hq⟩:=L.ob;have h3:=L.h3;refine ⟨_,
   (XSs.h
   (ai
    (ay (i:=4) sc_28.nd rfl ll (am aS (aN (yqv 0 vc) rfl) (yqv 3 vl)))
   (bA
    (aG (bP (dR (av ix (yqv 4 vl) dc (aA _)) (df (av aR (c5 PySem.F.plainAttrs_list PySem.F.slot_list_count PySem.F.type_list_count xX (bT (tns:=["other"]) (cns:=["self"]) (ci:=[0]) rfl (CompSc.of Jl) (b9 (yqv 2 vl)) (fun _=>(aH (i:=1) (show List.Nodup [(".0":Str),("other":Str),("self":Str)] by decide +kernel) rfl ll (Or.inr Jl))) (fun _=>cC) (fun _=>(am aS (aN (yqv 2 vc) rfl) (yqv 1 vl)))) (aa (yqv 4 vl) ac)) (am aw (aN (yqv 0 vc) rfl) (yqv 4 vl)) (aA _)))))
     (ak
      (au bE))
     aC)
   (ai
    (bu PassesOwn.never rfl (A6 T.z_enumerate (aa (am aS (aN (yqv 0 vc) rfl) (yqv 3 vl)) ac) gl) (jD rfl (cN (aH (i:=5) sc_28.nd rfl ll) (cN (aH (i:=6) sc_28.nd rfl ll) iK)))
     (ai
      (ay (i:=7) sc_28.nd rfl ll (A5 (aW du (yqv 5 vl) (yqv 1 vl) rfl) (dB (cL (aW aR (yqv 6 vl) ae (aA _)) (dB (aW du (yqv 5 vl) (yqv 2 vl) rfl))))))
     (ak
      (aG (bP (dR (av ix (yqv 6 vl) dc (aA _)) (df (bj (aZ (yqv 7 vl))))))
       (ak
        (au bE))
       aC))))
   (ak
    (au bE)))))),?_⟩
 rw [show aL _ [V.ref p,V.ref d,V.ref b,V.int pl]=[some (.ref p),some (.ref d),some (.ref b),some (.int pl),none,none,none,none] from rfl];simp_arith! [];refine cn hob T.c_Layer.cl T.n_Layer_sorts rfl (ixL (SqL.of hSo) (zu hpl) ?_);refine later ?_;simp_arith! [];refine zn (fun σ H'=>Same H H'/\(soN ds pl<3->(GD.fR (soN ds) bt (soN ds pl):Int)≠uN us (soN ds pl))/\σ=[some (.ref p),some (.ref d),some (.ref b),some (.int pl),some (sV (ds.getD pl (.tell (.word 0)))),none,none,none]) ?_ ?_
 ·by_cases hs:soN ds pl<3
  ·have e:sV (ds.getD pl (.tell (.word 0)))=.int (soN ds pl):=if_pos hs;rw [e];rwa [];refine ⟨⟨_,hB⟩,fun acc hacc bk=>?_⟩;refine ox (fun _=>true) (fun x=>sV (Fd ds (match x with | .int i=>i | _=>0))) (by rw [fA,sizeLine_eq];omega) hB hacc (fun x _ H2 Q' s2 h=>h H2 (Same.refl _)) (fun x hx H2 Q' s2 _ h=>?_) fun H2 s2 hacc2=>?_
   ·obtain ⟨qp,hqm,rfl⟩:=zq21.mp hx;rwa [];exact cn (s2 _ _ hob) T.c_Layer.cl T.n_Layer_sorts rfl (ixL (SqL.of (s2 _ _ hSo)) (zu (hbt qp hqm)) (h H2 (Same.refl _)))
   ·rw [dZ] at hacc2;have el:List.map (fun x=>sV (Fd ds (match x with | .int i=>i | _=>0))) (nl bt)=bt.map fun p=>sV (ds.getD p (.tell (.word 0))):=by unfold nl;rw [fM];rfl
    rw [el] at hacc2;have hu:(us.map V.int)[soN ds pl]?=some (V.int (uN us (soN ds pl))):=by unfold uN;rw [cf,zq8 Jn,fN,zq8 Jn];rfl
    refine ⟨.inl ⟨rfl,_,SqL.of hacc2⟩,zAF _ (SqL.of hacc2) rfl ?_ ?_⟩
    ·rw [List.all_map,zq37];exact fun x _=>B6
    refine cn (s2 _ _ hob) T.c_Layer.cl T.n_Layer_units rfl (ixT (s2.seqT hU) hu ?_);rw [Di hs];rwa [];refine aF (fun z=>?_) (fun z=>⟨s2,fun _=>z⟩);have hf:GD.bY (aQ ds) (soN ds) (uN us) dn bt pl=false:=by
     cases hf:GD.bY (aQ ds) (soN ds) (uN us) dn bt pl with
     |false=>rfl
     |true=>exact absurd z ((GD.fits_iff.mp hf).1 hs)
    rw [hf] at q;exact q H2 s2
  ·have e:sV (ds.getD pl (.tell (.word 0)))=.non:=if_neg hs;rw [e];rwa [];exact ⟨Same.refl H,fun z=>absurd z hs⟩
 ·rintro σ H1 ⟨s1,hc,rfl⟩;refine later ?_;obtain ⟨gq,hgq⟩:∃gq,qs[pl]?=some gq:=⟨_,zq8 Jn⟩
  have hG:=hq pl gq hgq;rwa [];refine cn (s1 _ _ hob) T.c_Layer.cl T.n_Layer_gaps rfl (ixL (SqL.of (s1 _ _ hGp)) (v:=.ref gq) (by rw [cf,hgq];rfl) (zAC gq rfl ⟨_,SqL.of (s1 _ _ hG)⟩ ?_));refine B7 (xs:=(List.range pl).map fun j=>FB.mX (aQ ds j pl)) (fun i σ H'=>Same H H'/\(∀j,j<i->GD.d6 (aQ ds) dn bt pl j=true)/\∃o5 o6 o7,σ=[some (.ref p),some (.ref d),some (.ref b),some (.int pl),some (sV (ds.getD pl (.tell (.word 0)))),o5,o6,o7]) (zAB s1 (fun j hj=>absurd hj Jn) (zAK _ _ _ rfl)) (fun i σ H' _ h=>SqL.of (h.1 _ _ hG)) ?_ ?_
  ·rintro i x σ H2 pp hx hpp ⟨s2,hah,o5,o6,o7,rfl⟩;have hi:i<pl:=by have:=(zq10.mp hx).1;rwa [zq1,gL] at this
   rw [cf,AA hi] at hx
   cases hx
   have s3:Same H (upd H2 pp (.tup [.int i,FB.mX (aQ ds i pl)])):=s2.updN hpp;rwa [];refine zAC _ (SqT.of aj) rfl ?_;have ih:GD.d6 (aQ ds) dn bt pl i=true->∀j,j<i+1->GD.d6 (aQ ds) dn bt pl j=true:=fun h j hj=>by
    by_cases e:j=i
    ·rw [e];exact h
    ·exact hah j Jn
   have no:GD.d6 (aQ ds) dn bt pl i=false->GD.bY (aQ ds) (soN ds) (uN us) dn bt pl=false:=fun h=>by
    cases hf:GD.bY (aQ ds) (soN ds) (uN us) dn bt pl with
    |false=>rfl
    |true=>have z:=(GD.fits_iff.mp hf).2 i hi;rw [h] at z;cases z
   unfold GD.d6 at ih no
   cases hg:aQ ds i pl with
   |none=>
    rw [hg] at ih s3;simp_arith [FB.mX] at s3 ⊢;have ih':=ih rfl;refine zAF _ (.inr (s3.seqT hD)) rfl gu ?_
    split
    ·split<;>exact zAB s3 ih' (zAK _ _ _ rfl)
    ·refine ⟨rfl,zn _ rfl ?_⟩;rw [show decide (V.non=V.int 0)=false from rfl];simp only [decide_true,Bool.not_true,Bool.false_eq_true,if_false];exact zAB s3 ih' (zAK _ _ _ rfl)
   |some l=>
    rw [hg] at ih no s3;simp_arith [FB.mX] at s3 ⊢;dsimp only at ih no;refine zAF _ (.inr (s3.seqT hD)) rfl gu ?_;rw [jZ,show decide (V.int l=V.non)=false from rfl]
    by_cases h1:i∈dn
    ·rw [if_pos (decide_eq_true h1)]
     split<;>exact zAB s3 (ih (by simp [h1])) (zAK _ _ _ rfl)
    ·rw [if_neg (by simp [h1])]
     by_cases h2:l=0
     ·rw [if_pos (decide_eq_true h2)];refine zAF _ (.inl (s3.seq hB)) rfl gu ?_;rw [jZ]
      by_cases h3':i∈bt
      ·simp only [h3',decide_true,Bool.not_true,Bool.not_false,Bool.false_eq_true,if_false,if_true];exact zAB s3 (ih (by simp [h2,h3'])) (zAK _ _ _ rfl)
      ·simp only [h3',decide_false,Bool.not_true,Bool.not_false,Bool.false_eq_true,if_false,if_true];rw [no (by simp [h1,h3'])] at q;exact q _ s3
     ·rw [if_neg (by simp [h2])];simp only [Bool.not_true,Bool.not_false,Bool.false_eq_true,if_false,if_true];rw [no (by simp [h1,h2])] at q;exact q _ s3
  ·rintro σ H2 ⟨s2,hah,o5,o6,o7,rfl⟩;rw [zq1,gL] at hah;have hf:GD.bY (aQ ds) (soN ds) (uN us) dn bt pl=true:=GD.fits_iff.mpr ⟨hc,hah⟩;rw [hf] at q;rwa [];exact q H2 s2
def mt(K:W.Frag)(H:Hp)(a b:Addr)(ds:List FB.Deed)(us:List Int):Prop:=∃xs,SqL K H a xs/\DeedsV K H xs ds/\ds.length<=8/\SqT K H b (us.map V.int)/\us.length=3/\∀u∈us,0<u/\u<=3
variable {H:Hp}
def LLN(H:Hp)(c:Addr)(bts:List (List Nat)):Prop:=∃ps:List Addr,H c=some (.lst (ps.map V.ref))/\Paired (fun p (b:List Nat)=>H p=some (.lst (nl b))) ps bts
theorem LLN.same{H':Hp}{c:Addr}{bts:List (List Nat)}(s:Same H H')(h:LLN H c bts):LLN H' c bts:=
 let ⟨ps,e,r⟩:=h;(zn ps (s _ _ e) (Paired.mapP r fun _ _ z=>s _ _ z))
theorem DD{mo r:Addr}{rs:List Addr}{b:List Nat}(h1:H mo=some (.lst (rs.map V.ref)))(h2:H r=some (.lst (nl b)))(hr:r∈rs):r≠mo:=by
 rintro rfl;rw [h1] at h2;have e:rs.map V.ref=nl b:=HO.lst.inj (Option.some.inj h2)
 cases rs with
 |nil=>cases hr
 |cons x xs=>
  cases b with
  |nil=>cases e
  |cons y ys=>
   unfold nl at e;rw [dh,dh] at e
   cases (List.cons.inj e).1
theorem u9{H:Hp}{mo:Addr}{rs:List Addr}{o:HO}(h:H mo=some (.lst (rs.map V.ref))):∀{rs':List Addr} {bs:List (List Nat)},Paired (fun r (b:List Nat)=>H r=some (.lst (nl b))) rs' bs->(∀r∈rs',r∈rs)->Paired (fun r (b:List Nat)=>upd H mo o r=some (.lst (nl b))) rs' bs
 |_,_,.nil,_=>.nil
 |_,_,.cons z t,hm=>.cons (by rw [aq (DD h z (hm _ Jo))];exact z) (u9 h t fun r hr=>hm r (zq9 _ hr))
theorem yG{H:Hp}{mo:Addr}{rs:List Addr}{bs:List (List Nat)}{r:Addr}{b:List Nat}(h:H mo=some (.lst (rs.map V.ref)))(hp:Paired (fun r (b:List Nat)=>H r=some (.lst (nl b))) rs bs)(hr:H r=some (.lst (nl b)))(ne:r≠mo):
  Paired (fun q (b:List Nat)=>upd H mo (.lst (rs.map V.ref++[.ref r])) q=some (.lst (nl b))) (rs++[r]) (bs++[b]):=Paired.snoc (u9 h hp fun _ h=>h) (by rw [aq ne];exact hr)
theorem Bf{bt:List Nat}{p:Nat}:nl bt++[V.int p]=nl (bt++[p]):=by unfold nl;rw [cS];rfl
def sX(K:W.Frag)(C:Addr)(p d b m:Addr)(H:Hp)(Q:VK):Prop:=∃(ds:List FB.Deed)(us:List Int)(dn bt ms:List Nat),LayerH K C H p ds us/\SqT K H d (nl dn)/\SqL K H b (nl bt)/\SqL K H m (nl ms)/\(∀q∈bt,q<ds.length)/\bt.length<=8/\(∀q∈ms,q<ds.length)/\ms.length<=8/\∀H',Same H H'->Q (.bl (GD.roomB (aQ ds) (soN ds) (uN us) dn bt ms)) H'
def uJ(K:W.Frag)(C:Addr):Sp:=fun vs H Q _=>∃(p d b m:Addr),vs=[.ref p,.ref d,.ref b,.ref m]/\sX K C p d b m H Q
def nV(K:W.Frag)(C:Addr)(p d c:Addr)(i:Int)(H:Hp)(Q:VK):Prop:=∃(ds:List FB.Deed)(us:List Int)(dn:List Nat)(bts:List (List Nat)) (pl:Nat),i=pl/\LayerH K C H p ds us/\SqT K H d (nl dn)/\LLN H c bts/\pl<ds.length/\(∀b∈bts,(∀q∈b,q<ds.length)/\b.length<=7)/\bts.length<=1000/\
 ∀c' H',Same H H'->LLN H' c' (GD.bQ (aQ ds) (soN ds) (uN us) dn bts pl)->Q (.ref c') H'
def pZ(K:W.Frag)(C:Addr):Sp:=fun vs H Q _=>∃(p d c:Addr)(i:Int),vs=[.ref p,.ref d,.ref c,.int i]/\nV K C p d c i H Q
theorem rN{C p d b m:Addr}{Q:VK}{E:XK}:uJ K C [.ref p,.ref d,.ref b,.ref m] H Q E=sX K C p d b m H Q:=propext ⟨by rintro ⟨_,_,_,_,e,q⟩;cases e;exact q,fun q=>zAP p d b m rfl q⟩
theorem ug{C p d c:Addr}{i:Int}{Q:VK}{E:XK}:pZ K C [.ref p,.ref d,.ref c,.int i] H Q E=nV K C p d c i H Q:=propext ⟨by rintro ⟨_,_,_,_,e,q⟩;cases e;exact q,fun q=>zAP p d c i rfl q⟩
def fRm(f:Nat->Bool):V->V
 | .int i=>.bl (f i.toNat)
 |_=>.non
theorem Bv(T:Txt K mg t):FnOk P w K mg base CX0 2 t.f_27 t.e_27 ["self","done","beat","missing"] (uJ K t.C_Layer):=by
 have G_28:=@tQ P w K mg base t T;refine T.d_27.F.ok HP ∅ ?_;rintro cdv A outer s H vs Q E hr ⟨p,d,b,m,rfl,ds,us,dn,bt,ms,L,hD,hB,hM,hbt,hlb,hms,hlm,q⟩;refine ⟨_,
   (XSs.h
   (ak
    (au (aB (oq rfl) gl T.z_any boot_any (aa (bT (tns:=["place"]) (cns:=["self","done","beat"]) (ci:=[0,1,2]) rfl (CompSc.of Jl) (b9 (yqv 3 vl)) (fun _=>(aH (i:=1) (show List.Nodup [(".0":Str),("place":Str),("self":Str),("done":Str),("beat":Str)] by decide +kernel) rfl ll (Or.inr Jl))) (fun _=>cC) (fun _=>(cL (aW dN (yqv 1 vl) (yqv 4 vc) rfl) (dB (aX T.c_Layer.cl T.d_28 G_28 hr.m (yqv 2 vc) (aa (yqv 3 vc) (aa (yqv 4 vc) (aa (yqv 1 vl) ac)))))))) ac))))),?_⟩
 rw [show aL _ [V.ref p,V.ref d,V.ref b,V.ref m]=[some (.ref p),some (.ref d),some (.ref b),some (.ref m)] from rfl];rwa [kn];refine ⟨⟨_,hM⟩,fun acc hacc bk=>?_⟩;refine ox (fun _=>true) (fRm fun q=>!decide (q∈bt)&&GD.bY (aQ ds) (soN ds) (uN us) dn bt q) (by rw [fA,sizeLine_eq];omega) hM hacc (fun x _ H2 Q' s2 h=>h H2 (Same.refl _)) (fun x hx H2 Q' s2 _ h=>?_) fun H2 s2 hacc2=>?_
 ·obtain ⟨qp,hqm,rfl⟩:=zq21.mp hx;rwa [kn];refine zAF _ (.inl (s2.seq hB)) rfl gu ?_;rw [jZ];have h':∀H',Same H2 H'->Q' (.bl (!decide (qp∈bt)&&GD.bY (aQ ds) (soN ds) (uN us) dn bt qp)) H':=h;obtain ⟨dx,ub,sb,gb,qs,hob,_⟩:=(L.same s2).ob;refine fU (fun hn=>?_) (fun hn=>?_)
  ·rw [decide_eq_false hn,Bool.not_false,AH] at h';exact bB hob rfl (zAW ds us dn bt qp (zBC rfl (L.same s2) (s2.seqT hD) (s2.seq hB) (hms qp hqm) hbt hlb h'))
  ·rw [decide_eq_true hn,Bool.not_true,Ac] at h';exact h' H2 (Same.refl _)
 rw [dZ] at hacc2;refine zn (ms.map fun q=>!decide (q∈bt)&&GD.bY (aQ ds) (soN ds) (uN us) dn bt q) (SqL.of ?_) ?_
 ·rw [hacc2];unfold nl;rw [fM,fM];rfl
 ·have z:=q H2 s2;unfold GD.roomB at z;rw [Ay];exact z
theorem yf(T:Txt K mg t):FnOk P w K mg base CX0 2 t.f_26 t.e_26 ["self","done","beats","place"] (pZ K t.C_Layer):=by
 have G_28:=@tQ P w K mg base t T;refine T.d_26.F.ok sc_26 ∅ ?_;rintro cdv A outer s H vs Q E hr ⟨p,d,c,i,rfl,ds,us,dn,bts,pl,rfl,L,hD,hC,hpl,hb,hl,q⟩;obtain ⟨ps,hc,hps⟩:=hC;have lps:=hps.length;refine ⟨_,
   (XSs.h
   (ai
    (ay (i:=4) sc_26.nd rfl ll (aT ac))
   (ai
    (bu PassesOwn.never rfl (b9 (yqv 2 vl)) (aH (i:=5) sc_26.nd rfl ll)
     (ai
      (ay (i:=6) sc_26.nd rfl ll (aX T.c_Layer.cl T.d_28 G_28 hr.m (yqv 0 vl) (aa (yqv 1 vl) (aa (yqv 5 vl) (aa (yqv 3 vl) ac)))))
     (bA
      (aG (aZ (yqv 6 vl))
       (ak
        (aY (c5 PySem.F.plainAttrs_list PySem.F.slot_list_append PySem.F.type_list_append ba (yqv 4 vl) (aa (ax hZ (yqv 5 vl) (aT (aa (yqv 3 vl) ac))) ac))))
       aC)
     (ak
      (aG (bP (bS (bj (aZ (yqv 6 vl))) (cj (av ix (am aS (aN (yqv 0 vl) rfl) (yqv 3 vl)) dc (aA _)))))
       (ak
        (aY (c5 PySem.F.plainAttrs_list PySem.F.slot_list_append PySem.F.type_list_append ba (yqv 4 vl) (aa (yqv 5 vl) ac))))
       aC)))))
   (ak
    (au (yqv 4 vl)))))),?_⟩
 rw [show aL _ [V.ref p,V.ref d,V.ref c,V.int pl]=[some (.ref p),some (.ref d),some (.ref c),some (.int pl),none,none,none] from rfl];rwa [kn];intro mo hmo;refine ⟨⟨_,SqL.of (Same.upd hmo _ _ hc)⟩,?_⟩;refine cA (xs:=ps.map V.ref) (fun i σ H'=>Same H H'/\∃(rs:List Addr)(o5 o6:Option V),σ=[some (.ref p),some (.ref d),some (.ref c),some (.int pl),some (.ref mo),o5,o6]/\H' mo=some (.lst (rs.map V.ref))/\Paired (fun p (b:List Nat)=>H' p=some (.lst (nl b))) rs (GD.bQ (aQ ds) (soN ds) (uN us) dn (bts.take i) pl)) ⟨Same.upd hmo,zAO ([]) none none rfl aj .nil⟩ (fun i σ H' _ h=>SqL.of (h.1 _ _ hc)) ?_ ?_
 ·rintro i x σ H1 hx ⟨s1,rs,o5,o6,rfl,hm1,hrs⟩;rw [cf] at hx;obtain ⟨bp,hbp,rfl⟩:=zq27.mp hx;obtain ⟨bt,hbt,hpb⟩:=Paired.get hps hbp;obtain ⟨hi,ei⟩:=zq10.mp hbt;obtain ⟨b1,b2⟩:=hb bt (zq4 hbt);simp_arith only [kn];obtain ⟨dx,ub,sb,gb,qs,hob,hU,hSo,hGp,hql,hq⟩:=(L.same s1).ob;refine bB hob rfl (zAW ds us dn bt pl (zBC rfl (L.same s1) (s1.seqT hD) (SqL.of (s1 _ _ hpb)) hpl b1 Jn fun H2 s2=>?_));refine later ?_;simp_arith! [kn];have s3:=s1.trans s2;have hr2:Paired (fun p (b:List Nat)=>H2 p=some (.lst (nl b))) rs (GD.bQ (aQ ds) (soN ds) (uN us) dn (bts.take i) pl):=Paired.mapP hrs fun _ _ z=>s2 _ _ z;have e4:GD.bQ (aQ ds) (soN ds) (uN us) dn (bts.take (i+1)) pl=GD.bQ (aQ ds) (soN ds) (uN us) dn (bts.take i) pl++GD.gP (aQ ds) (soN ds) (uN us) dn bt pl:=by unfold GD.bQ;rw [eN hi,ei,List.flatMap_append,List.flatMap_singleton]
  rw [e4];have lr:=hrs.length;have lg:=GD.iU (G:=aQ ds) (so:=soN ds) (U:=uN us) (dn:=dn) (bts.take i) pl;rw [dE] at lg;refine ⟨fun σ H'=>Same H H'/\∃rs:List Addr,σ=[some (.ref p),some (.ref d),some (.ref c),some (.int pl),some (.ref mo),some (.ref bp),some (.bl (GD.bY (aQ ds) (soN ds) (uN us) dn bt pl))]/\H' mo=some (.lst (rs.map V.ref))/\Paired (fun p (b:List Nat)=>H' p=some (.lst (nl b))) rs (GD.bQ (aQ ds) (soN ds) (uN us) dn (bts.take i) pl++(if GD.bY (aQ ds) (soN ds) (uN us) dn bt pl=true then [bt++[pl]] else [])),?_,?_⟩
  ·cases hf:GD.bY (aQ ds) (soN ds) (uN us) dn bt pl with
   |true=>
    rwa [if_true];refine ⟨.inl ⟨rfl,_,SqL.of (s2 _ _ hm1)⟩,fun p3 hp3=>zAE (nl bt) ([V.int pl]) (Same.upd hp3 _ _ (s2 _ _ (s1 _ _ hpb))) aj (by rw [fA,sizeLine_eq,cG];omega) fun p4 hp4=>?_⟩;have s5:=(Same.upd (o:=.lst [V.int pl]) hp3).trans (Same.upd (o:=.lst (nl bt++[V.int pl])) hp4);have m5:=s5 _ _ (s2 _ _ hm1);refine zAF (rs.map V.ref) m5 (by rw [zq1,sizeLine_eq];omega) ((s3.trans s5).updM hmo) (zn (rs++[p4]) (by rw [aj,cS];rfl) ?_);exact yG m5 (Paired.mapP hr2 fun _ _ z=>s5 _ _ z) (by rw [aj,Bf]) (ao (Same.upd hp3 _ _ (s2 _ _ hm1)) hp4).symm
   |false=>rwa [Bool.false_eq_true,if_false,List.append_nil];exact ⟨s3,zn rs (s2 _ _ hm1) hr2⟩
  ·rintro σ H3 ⟨s4,rs2,rfl,hm3,hr3⟩;refine later ?_;have lr3:=hr3.length;rw [zq3] at lr3;have l1:(if GD.bY (aQ ds) (soN ds) (uN us) dn bt pl=true then [bt++[pl]] else []).length<=1:=by split<;>simp
   have app:∀v6:V,(GD.bY (aQ ds) (soN ds) (uN us) dn bt pl=false\/soN ds pl<3)->tyV K "list" (V.ref mo) H3/\∃xs,H3 mo=some (.lst xs)/\xs.length<sizeLine/\Same H (upd H3 mo (.lst (xs++[V.ref bp])))/\∃(rs:List Addr)(o5 o6:Option V),
     [some (V.ref p),some (V.ref d),some (V.ref c),some (V.int ↑pl),some (V.ref mo),some (V.ref bp),some v6]=[some (V.ref p),some (V.ref d),some (V.ref c),some (V.int ↑pl),some (V.ref mo),o5,o6]/\upd H3 mo (.lst (xs++[V.ref bp])) mo=some (.lst (rs.map V.ref))/\
      Paired (fun p (b:List Nat)=>upd H3 mo (.lst (xs++[V.ref bp])) p=some (.lst (nl b))) rs (GD.bQ (aQ ds) (soN ds) (uN us) dn (bts.take i) pl++GD.gP (aQ ds) (soN ds) (uN us) dn bt pl):=fun v6 hor=>by
    refine ⟨.inl ⟨rfl,_,SqL.of hm3⟩,zAF _ hm3 (by rw [zq1,sizeLine_eq];omega) (s4.updM hmo) (zAO (rs2++[bp]) _ _ rfl (by rw [aj,cS];rfl) ?_)⟩;unfold GD.gP;rw [if_pos hor,<- lz];exact yG hm3 hr3 (s4 _ _ hpb) (ao hpb hmo)
   rwa []
   cases hf:GD.bY (aQ ds) (soN ds) (uN us) dn bt pl with
   |false=>
    simp only [Bool.not_false,if_true];exact app _ (.inl hf)
   |true=>
    simp only [Bool.not_true,Bool.false_eq_true,if_false];obtain ⟨dx,ub,sb,gb,qs,hob,hU,hSo,hGp,hql,hq⟩:=(L.same s4).ob;refine cn hob T.c_Layer.cl T.n_Layer_sorts rfl (ixL (SqL.of hSo) (zu hpl) ?_)
    by_cases hs:soN ds pl<3
    ·rw [show sV (ds.getD pl (.tell (.word 0)))=.int (soN ds pl) from if_pos hs,show decide (V.int (soN ds pl)=V.non)=false from rfl];simp only [Bool.not_false,if_true];exact app _ (.inr hs)
    ·rw [show sV (ds.getD pl (.tell (.word 0)))=.non from if_neg hs];simp only [decide_true,Bool.not_true,Bool.false_eq_true,if_false];refine ⟨s4,zAO rs2 _ _ rfl hm3 ?_⟩;unfold GD.gP;rw [if_neg (show ¬(GD.bY (aQ ds) (soN ds) (uN us) dn bt pl=false\/soN ds pl<3) by rw [hf];simp [hs]),iL];exact hr3
 ·rintro σ H1 ⟨s1,rs,o5,o6,rfl,hm1,hrs⟩;rwa [];rw [zq1,lps,eO] at hrs;exact q mo H1 s1 (zn rs hm1 hrs)
def sO(K:W.Frag)(C:Addr)(p d:Addr)(H:Hp)(Q:VK):Prop:=∃(ds:List FB.Deed)(us:List Int)(dn:List Nat),LayerH K C H p ds us/\SqT K H d (nl dn)/\∀c H',Same H H'->LLN H' c (GD.cq (aQ ds) (soN ds) (uN us) ds.length dn)->Q (.ref c) H'
def uw(K:W.Frag)(C:Addr):Sp:=fun vs H Q _=>∃(p d:Addr),vs=[.ref p,.ref d]/\sO K C p d H Q
def nW(K:W.Frag)(C:Addr)(p a b:Addr)(H:Hp)(Q:VK):Prop:=∃(H0:Hp)(dx:Addr)(ds:List FB.Deed)(us:List Int),Same H0 H/\H0 p=none/\H p=some (.ins C dx [])/\mt K H0 a b ds us/\∀H',Same H0 H'->LayerH K C H' p ds us->Q .non H'
def q9(K:W.Frag)(C:Addr):Sp:=fun vs H Q _=>∃(p a b:Addr),vs=[.ref p,.ref a,.ref b]/\nW K C p a b H Q
theorem rL{C p d:Addr}{H:Hp}{Q:VK}{E:XK}:uw K C [.ref p,.ref d] H Q E=sO K C p d H Q:=propext ⟨by rintro ⟨_,_,e,q⟩;cases e;exact q,fun q=>zAD p d rfl q⟩
theorem BZ{C p a b:Addr}{H:Hp}{Q:VK}{E:XK}:q9 K C [.ref p,.ref a,.ref b] H Q E=nW K C p a b H Q:=propext ⟨by rintro ⟨_,_,_,e,q⟩;cases e;exact q,fun q=>zAI p a b rfl q⟩
theorem gB{f:Str}{v:V}:∀{fs:List (Str×V)},(fs.map (·.1)).contains f=false->di f v fs=fs++[(f,v)]
 | [],_=>rfl
 | (g,x)::r,h=>by
  rw [dh,List.contains_cons,Bool.or_eq_false_iff] at h;have n:¬g=f:=fun z=>by subst z;simp at h
  rw [show di f v ((g,x)::r)=(if g=f then (g,v)::r else (g,x)::di f v r) from rfl,if_neg n,gB h.2];rfl
theorem tI{ds:List FB.Deed}{us:List Int}{dn:List Nat}:∀(ms:List Nat)(bts:List (List Nat)) (m:Nat),(∀q∈ms,q<ds.length)->(∀b∈bts,(∀q∈b,q<ds.length)/\b.length<=m)->∀b∈ms.foldl (GD.bQ (aQ ds) (soN ds) (uN us) dn) bts,(∀q∈b,q<ds.length)/\b.length<=m+ms.length
 | [],_,_,_,h=>h
 |p::ms,bts,m,h1,h2=>fun b hb=>by
  have z:=tI ms (GD.bQ (aQ ds) (soN ds) (uN us) dn bts p) (m+1) (fun q hq=>h1 q (zq9 _ hq)) (fun c hc=>by
   obtain ⟨b',hb',hc⟩:=zq106.mp hc;obtain ⟨g1,g2⟩:=h2 b' hb';rcases GD.oW hc with ⟨_,rfl⟩ | rfl
   ·refine ⟨fun q hq=>?_,by rw [zq3,cG];omega⟩;rcases zq15.mp hq with hq | hq
    ·exact g1 q hq
    ·rw [zq2.mp hq];exact h1 p Jo
   ·exact ⟨g1,Jn⟩) b hb
  exact ⟨z.1,by rw [dk];omega⟩
theorem oX{n:Nat}{dn:List Nat}:(GD.cE n dn).length<=n:=by have:=Am (fun p=>!decide (p∈dn)) (List.range n);rwa [gL] at this
theorem Bl(T:Txt K mg t):FnOk P w K mg base CX0 3 t.f_25 t.e_25 ["self","done"] (uw K t.C_Layer):=by
 have G_27:=@Bv P w K mg base t T;have G_26:=@yf P w K mg base t T;refine T.d_25.F.ok sc_25 ∅ ?_;rintro cdv A outer s H vs Q E hr ⟨p,d,rfl,ds,us,dn,L,hD,q⟩;have h8:=L.h8;obtain ⟨dx,ub,sb,gb,qs,hob,hU,hSo,hGp,hql,hq⟩:=L.ob;refine ⟨_,
   (XSs.h
   (ai
    (ay (i:=3) sc_25.nd rfl lc (bT (tns:=["place"]) (cns:=["done"]) (ci:=[1]) rfl (CompSc.of Jl) (bX gl T.z_range (aa (aB aD gl T.z_len PySem.boot_len (aa (aN (yqv 0 vc) rfl) ac)) ac)) (fun _=>(aH (i:=1) (show List.Nodup [(".0":Str),("place":Str),("done":Str)] by decide +kernel) rfl ll (Or.inr Jl))) (fun _=>(iJ (av dN (yqv 1 vl) (yqv 2 vc) rfl))) (fun _=>(yqv 1 vl))))
   (ai
    (ay (i:=4) sc_25.nd rfl ll (aT (aa (aT ac) ac)))
   (ai
    (bu PassesOwn.never rfl (b9 (yqv 3 vc)) (aH (i:=2) sc_25.nd rfl ll)
     (ak
      (ay (i:=4) sc_25.nd rfl ll (aX T.c_Layer.cl T.d_26 G_26 hr.m (yqv 0 vc) (aa (yqv 1 vc) (aa (yqv 4 vl) (aa (yqv 2 vl) ac)))))))
   (ak
    (au (bT (tns:=["beat"]) (cns:=["self","done","missing"]) (ci:=[0,1,3]) rfl (CompSc.of Jl) (b9 (yqv 4 vl)) (fun _=>(aH (i:=1) (show List.Nodup [(".0":Str),("beat":Str),("self":Str),("done":Str),("missing":Str)] by decide +kernel) rfl ll (Or.inr Jl))) (fun _=>(iJ (bj (aZ (aX T.c_Layer.cl T.d_27 G_27 hr.m (yqv 2 vc) (aa (yqv 3 vc) (aa (yqv 1 vl) (aa (yqv 4 vc) ac)))))))) (fun _=>(yqv 1 vl))))))))),?_⟩
 rw [show aL _ [V.ref p,V.ref d]=[some (.ref p),some (.ref d),none,none,none] from rfl];rwa [rN,ug];refine cn hob T.c_Layer.cl T.n_Layer_sorts rfl ?_;refine zAS sb _ rfl (.inl (SqL.of hSo)) (by rw [zq1];omega) (by rw [zq1];omega) fun acc hacc bk=>?_;rw [zq1,eh];refine jR (fun q=>!decide (q∈dn)) (fun q=>V.int q) (by rw [sizeLine_eq];omega) hacc (fun i hi H2 Q' s2 h=>?_) (fun i hi H2 Q' s2 _ h=>?_) fun H2 s2 hm=>?_
 ·rwa [];refine zAF _ (.inr (s2.seqT hD)) rfl gu ?_;rw [jZ];exact h H2 (Same.refl _)
 ·rwa [];exact h H2 (Same.refl _)
 replace hm:H2 acc=some (.lst (nl (GD.cE ds.length dn))):=hm;have hml:=oX (n:=ds.length) (dn:=dn);have hmm:∀q∈GD.cE ds.length dn,q<ds.length:=fun q hq=>(GD.miss_iff.mp hq).1;have hfull:GD.cq (aQ ds) (soN ds) (uN us) ds.length dn=((GD.cE ds.length dn).foldl (GD.bQ (aQ ds) (soN ds) (uN us) dn) [[]]).filter fun b=>!GD.roomB (aQ ds) (soN ds) (uN us) dn b (GD.cE ds.length dn):=rfl;rw [hfull] at q;generalize GD.cE ds.length dn=ms at hm hml hmm q;have hbs:∀i,i<=ms.length->∀b∈(ms.take i).foldl (GD.bQ (aQ ds) (soN ds) (uN us) dn) [[]],(∀q∈b,q<ds.length)/\b.length<=i:=fun i hi b hb=>by have z:=tI (us:=us) (dn:=dn) (ms.take i) [[]] 0 (fun q hq=>hmm q (v9 hq)) (fun b hb=>by rw [zq2.mp hb];exact ⟨fun q hq=>(by cases hq),zq0 _⟩) b hb;rw [dE] at z;exact ⟨z.1,Jn⟩
 have hbl:∀i,i<=ms.length->((ms.take i).foldl (GD.bQ (aQ ds) (soN ds) (uN us) dn) [[]]).length<=256:=fun i hi=>by have z:=GD.jY (G:=aQ ds) (so:=soN ds) (U:=uN us) (dn:=dn) (ms.take i) [[]];rw [dE,cG,Nat.mul_one] at z;exact cR z (cR (Aq Jm (show min i ms.length<=8 by omega)) Jm)
 intro p2 hp2 p3 hp3;have s3:=(Same.upd (o:=.lst []) hp2).trans (Same.upd (o:=.lst [V.ref p2]) hp3);refine ⟨⟨_,SqL.of (s3 _ _ hm)⟩,?_⟩;refine cA (xs:=nl ms) (fun i σ H'=>Same H H'/\H' acc=some (.lst (nl ms))/\∃(o2:Option V)(c:Addr),σ=[some (.ref p),some (.ref d),o2,some (.ref acc),some (.ref c)]/\LLN H' c ((ms.take i).foldl (GD.bQ (aQ ds) (soN ds) (uN us) dn) [[]])) (zAB (s2.trans s3) (s3 _ _ hm) (zAD _ p3 rfl (zn ([p2]) aj (.cons ?_ .nil)))) (fun i σ H' _ h=>SqL.of h.2.1) ?_ ?_
 ·rw [aq (ao aj hp3)];exact aj
 ·rintro i x σ H3 hx ⟨s4,hm3,o2,c,rfl,hl⟩;unfold nl at hx;rw [cf] at hx;obtain ⟨pl,hpl,rfl⟩:=zq27.mp hx;obtain ⟨hi,ei⟩:=zq10.mp hpl;rwa [ug];refine bB (s4 _ _ hob) rfl (zAW ds us dn _ pl (zBC rfl (L.same s4) (s4.seqT hD) hl (hmm pl (zq4 hpl)) (fun b hb=>⟨(hbs i Jn b hb).1,by have:=(hbs i Jn b hb).2;omega⟩) (by have:=hbl i Jn;omega) fun c' H4 s5 hl4=>zAB (s4.trans s5) (s5 _ _ hm3) (zAD _ c' rfl ?_)));rw [eN hi,ei,sF];exact hl4
 ·rintro σ H3 ⟨s4,hm3,o2,c,rfl,ps,hc,hps⟩;rw [fA] at hps;have hbs':=hbs ms.length (zq0 _);have hbl':=hbl ms.length (zq0 _);rw [eO] at hps hbs' hbl';generalize ms.foldl (GD.bQ (aQ ds) (soN ds) (uN us) dn) [[]]=bts at hps hbs' hbl' q;have lps:=hps.length;rwa [rN];refine ⟨⟨_,SqL.of hc⟩,fun acc2 hacc2 bk2=>?_⟩;refine eC (xs:=ps.map V.ref) (fun i ys H'=>Same H3 H'/\∃rs:List Addr,ys=rs.map V.ref/\H' acc2=some (.lst ys)/\rs.length<=i/\Paired (fun r (b:List Nat)=>H3 r=some (.lst (nl b))) rs ((bts.take i).filter fun b=>!GD.roomB (aQ ds) (soN ds) (uN us) dn b ms)) ⟨Same.upd hacc2,zAF ([]) rfl aj (zq0 _) .nil⟩ (fun i ys H' _ h=>SqL.of (h.1 _ _ hc)) ?_ ?_
  ·rintro i x ys H' os hx ho ⟨sm,rs,rfl,e1,lrs,hrs⟩;rw [cf] at hx;obtain ⟨bp,hbp,rfl⟩:=zq27.mp hx;obtain ⟨bt,hbt,hpb⟩:=Paired.get hps hbp;obtain ⟨hi,ei⟩:=zq10.mp hbt;obtain ⟨b1,b2⟩:=hbs' bt (zq4 hbt)
   match os,ho with
   | [o],_=>
    rwa [rN];have s5:=s4.trans sm;refine ⟨zn ([some (.ref bp)]) rfl rfl,bB (s5 _ _ hob) rfl (zAW ds us dn bt ms (zBB (L.same s5) (s5.seqT hD) (SqL.of (sm _ _ hpb)) (SqL.of (sm _ _ hm3)) b1 Jn hmm Jn fun H5 s6=>zn _ rfl ?_))⟩;have s7:=sm.trans s6;rw [eN hi,ei,Cy]
    cases hroom:GD.roomB (aQ ds) (soN ds) (uN us) dn bt ms with
    |false=>
     simp only [Bool.not_false,if_true];refine zAG (s6 _ _ e1) (by rw [zq1,sizeLine_eq];omega) (s7.updM hacc2) (zAF (rs++[bp]) (by rw [cS];rfl) aj (by rw [zq3,cG];omega) ?_);rw [List.filter_cons_of_pos (by rw [hroom];rfl),List.filter_nil];exact Paired.snoc hrs hpb
    |true=>simp only [Bool.not_true,Bool.false_eq_true,if_false];refine ⟨s7,zAF rs rfl (s6 _ _ e1) Jn ?_⟩;rw [List.filter_cons_of_neg (by rw [hroom];simp),List.filter_nil,iL];exact hrs
  ·rintro ys H' ⟨sm,rs,rfl,e1,lrs,hrs⟩;rw [zq1,lps,eO] at hrs;exact q acc2 H' (s4.trans sm) (zn rs e1 (Paired.mapP hrs fun _ _ z=>sm _ _ z))
theorem yh(T:Txt K mg t)(hw:t.pr=w.params):FnOk P w K mg base CX0 11 t.f_24 t.e_24 ["self","deeds","units"] (q9 K t.C_Layer):=by
 have G_17:=vY (P:=P) (base:=base) T hw;have G_22:=@DF P w K mg base t T;refine T.d_24.F.ok HN ∅ ?_;rintro cdv A outer s H vs Q E hr ⟨p,a,b,rfl,H0,dx,ds,us,s0,hp0,hp,hI,q⟩;obtain ⟨xs,hS,hds,h8,hU,h3,hpos⟩:=hI;have lx:=hds.length;refine ⟨_,
   (XSs.h
   (ai
    (bR (yqv 0 vl) (yqv 2 vl) rfl)
   (ai
    (bR (yqv 0 vl) (bT (tns:=["deed"]) (cns:=[]) (ci:=[]) rfl (CompSc.of Jl) (b9 (yqv 1 vc)) (fun _=>(aH (i:=1) (show List.Nodup [(".0":Str),("deed":Str)] by decide +kernel) rfl ll (Or.inr Jl))) (fun _=>cC) (fun _=>(ap T.d_17 G_17 hr.m (aa (yqv 1 vl) ac) gl))) rfl)
   (ak
    (bR (yqv 0 vl) (wV (z0:="k") (tns:=["k"]) (cns:=["deeds"]) (ci:=[1]) rfl (CompScZ.of Jl (fun _ _=>rfl) (fun _=>rfl)) (bX gl T.z_range (aa (aB aD gl T.z_len PySem.boot_len (aa (yqv 1 vc) ac)) ac)) (fun _=>(aH (i:=1) (show List.Nodup [(".0":Str),("k":Str),("deeds":Str)] by decide +kernel) rfl lc (Or.inl rfl))) (fun _=>cC) (fun _=>(bT (tns:=["j"]) (cns:=["k","deeds"]) (ci:=[1,2]) rfl (CompSc.of Jl) (bX gl T.z_range (aa (yqv 1 vc) ac)) (fun _=>(aH (i:=1) (show List.Nodup [(".0":Str),("j":Str),("k":Str),("deeds":Str)] by decide +kernel) rfl ll (Or.inr Jl))) (fun _=>cC) (fun _=>(ap T.d_22 G_22 hr.m (aa (yqv 3 vc) (aa (yqv 1 vl) (aa (yqv 2 vc) ac))) gl))))) rfl))))),?_⟩
 rw [show aL _ [V.ref p,V.ref a,V.ref b]=[some (.ref p),some (.ref a),some (.ref b)] from rfl];simp_arith! [kx,ko];refine fu hp T.c_Layer.cl T.n_Layer_units Jo ?_;rw [gB Jp,sG];have s1:=s0.updM (o:=.ins t.C_Layer dx [("units",V.ref b)]) hp0;have e1:upd H p (.ins t.C_Layer dx [("units",V.ref b)]) p=some (.ins t.C_Layer dx [("units",V.ref b)]):=aj;generalize upd H p (.ins t.C_Layer dx [("units",V.ref b)])=H1 at s1 e1 ⊢;refine later ?_;simp_arith! [kx,ko];refine ⟨⟨_,s1.seq hS⟩,fun acc hacc bk=>?_⟩;refine eC (xs:=xs) (fun i ys H'=>Same H1 H'/\H' acc=some (.lst ys)/\ys=(ds.take i).map sV) (zAB (Same.upd hacc) aj Jo) (fun i ys H' _ h=>(s1.trans h.1).seq hS) ?_ ?_
 ·rintro i x ys H' os hx ho ⟨sm,e2,rfl⟩;obtain ⟨d,hd,fd,qx,rfl,hqx⟩:=Paired.get (hds.ts (s1.trans sm).ts) hx;obtain ⟨hi,ei⟩:=zq10.mp hd
  match os,ho with
  | [o],_=>rwa [kx];refine ⟨zn ([some (.ref qx)]) rfl rfl,⟨d,zAT hqx fd e2 (by rw [zq1,dE,sizeLine_eq];omega) (sm.updM hacc) aj ?_⟩⟩;rw [eN hi,ei,cS];rfl
 ·rintro ys H2 ⟨s2,e2,rfl⟩;rw [lx,eO] at e2;have fa:=s1.free hacc;refine fu (s2 _ _ e1) T.c_Layer.cl T.n_Layer_sorts Jo ?_;rw [gB Jl];have npa:acc≠p:=(ao e1 hacc).symm;have s3:=(s1.trans s2).updM (o:=.ins t.C_Layer dx ([(("units":Str),V.ref b)]++[(("sorts":Str),V.ref acc)])) hp0;have e3:upd H2 p (.ins t.C_Layer dx ([(("units":Str),V.ref b)]++[(("sorts":Str),V.ref acc)])) p=some (.ins t.C_Layer dx ([(("units":Str),V.ref b)]++[(("sorts":Str),V.ref acc)])):=aj;have g3:upd H2 p (.ins t.C_Layer dx ([(("units":Str),V.ref b)]++[(("sorts":Str),V.ref acc)])) acc=some (.lst (ds.map sV)):=by rw [aq npa];exact e2
  generalize upd H2 p (.ins t.C_Layer dx ([(("units":Str),V.ref b)]++[(("sorts":Str),V.ref acc)]))=H3 at s3 e3 g3 ⊢;refine later ?_;simp_arith! [ko];refine zAF xs (.inl (s3.seq hS)) Jn Jn fun ac2 hac2 bk2=>?_;rw [eh,lx];refine jQ (fun k ys H'=>Same H3 H'/\∃qs:List Addr,ys=qs.map V.ref/\H' ac2=some (.lst ys)/\qs.length=k/\∀(j:Nat)q,qs[j]?=some q->q≠ac2/\H' q=some (.lst ((List.range j).map fun i=>FB.mX (aQ ds i j)))) ⟨Same.upd hac2,zAF ([]) rfl aj rfl fun j q h=>by simp at h⟩ ?_ ?_
  ·rintro k ys H' os hk ho ⟨sm,qs,rfl,e4,lq,hqs⟩;rw [show (0:Int)+(k:Int)=(k:Int) by omega]
   match os,ho with
   | [o],_=>
    rwa [ko];refine zAG (zn ([some (.int k)]) rfl rfl) Jn Jn fun ac3 hac3 bk3=>?_;rw [eh];refine jR (fun _=>true) (fun j=>FB.mX (aQ ds j k)) (by rw [sizeLine_eq];omega) hac3 (fun j hj H4 Q' s4 h=>h H4 (Same.refl _)) (fun j hj H4 Q' s4 _ h=>?_) fun H4 s4 e5=>?_
    ·rwa [ko];have s5:=(s3.trans sm).trans s4;exact zAU xs ds j k rfl rfl (s5.seq hS) (hds.ts s5.ts) hj Jn h
    ·rw [List.filter_eq_self.mpr (fun _ _=>rfl)] at e5;refine zAG (s4 _ _ e4) (by rw [zq1,sizeLine_eq];omega) ((sm.trans s4).updM hac2) (zAF (qs++[ac3]) (by rw [cS];rfl) aj (by rw [zq3,cG];omega) fun j q hj=>?_);have n3:ac3≠ac2:=(ao e4 hac3).symm
     by_cases hlt:j<qs.length
     ·rw [jr hlt] at hj;obtain ⟨z1,z2⟩:=hqs j q hj;exact ⟨z1,by rw [aq z1];exact s4 _ _ z2⟩
     ·have hjl:=(zq10.mp hj).1;rw [zq3,cG] at hjl;obtain rfl:j=qs.length:=by omega
      rw [j9 (zq0 _),nL] at hj
      cases hj
      refine ⟨n3,?_⟩;rw [aq n3,lq];exact e5
  ·rintro ys H4 ⟨s4,qs,rfl,e4,lq,hqs⟩;refine fu (s4 _ _ e3) T.c_Layer.cl T.n_Layer_gaps Jo ?_;rw [gB Jl];have nac:ac2≠p:=(ao e3 hac2).symm;have s5:=(s3.trans s4).updM (o:=.ins t.C_Layer dx ([(("units":Str),V.ref b)]++[(("sorts":Str),V.ref acc)]++[(("gaps":Str),V.ref ac2)])) hp0;refine q _ s5 ⟨zAV dx b acc ac2 qs aj (s5.seqT hU) ?_ ?_ lq fun k qq hk=>?_,h8,h3,hpos⟩
   ·rw [aq npa];exact s4 _ _ g3
   ·rw [aq nac];exact e4
   ·obtain ⟨z1,z2⟩:=hqs k qq hk;rw [aq (bN z2 (s4 _ _ e3) (by intro z;cases z))];exact z2
variable {H H':Hp}
def LSt(H H':Hp):Prop:=∀b xs,H b=some (.lst xs)->H' b=some (.lst xs)
theorem LSt.of(s:Same H H'):LSt H H':=fun b xs e=>s _ _ e
theorem LSt.trans{H1 H2:Hp}(a:LSt H H1)(b:LSt H1 H2):LSt H H2:=fun c xs e=>b _ _ (a _ _ e)
theorem LSt.upd{l:Addr}{o u:HO}(e:H l=some u)(hn:∀xs,u≠.lst xs):LSt H (upd H l o):=fun b xs eb=>by rw [aq (bN eb e (fun z=>hn xs z.symm))];exact eb
theorem LLN.lst{c:Addr}{bts:List (List Nat)}(s:LSt H H')(h:LLN H c bts):LLN H' c bts:=
 let ⟨ps,e,r⟩:=h;(zn ps (s _ _ e) (Paired.mapP r fun _ _ z=>s _ _ z))
def km(ps:List Nat):List Key:=ps.map fun p:Nat=>(Sum.inl (p:Int):Key)
theorem tN{ps:List Nat}:(km ps).map kV=nl ps:=by unfold km nl;rw [fM];rfl
theorem xR:∀{a b:List Nat},km a=km b->a=b
 | [],[],_=>rfl
 | [],_::_,h=>by cases h
 |_::_,[],h=>by cases h
 |x::a,y::b,h=>by unfold km at h;rw [dh,dh,List.cons.injEq] at h;have e:(x:Int)=(y:Int):=Sum.inl.inj h.1;rw [xR (a:=a) (b:=b) h.2,show x=y by omega]
def WsV(H:Hp)(kvs:List (List Key×V))(ws:List (List Nat×List (List Nat))):Prop:=Paired (fun (kv:List Key×V) (w:List Nat×List (List Nat))=>kv.1=km w.1/\∃c,kv.2=.ref c/\LLN H c w.2) kvs ws
theorem WsV.lst{kvs:List (List Key×V)}{ws:List (List Nat×List (List Nat))}(s:LSt H H')(h:WsV H kvs ws):WsV H' kvs ws:=Paired.mapP h fun _ _ ⟨z1,c,z2,z3⟩=>⟨z1,zn c z2 (z3.lst s)⟩
theorem WsV.val{kvs:List (List Key×V)}{ws:List (List Nat×List (List Nat))}(h:WsV H kvs ws)(k:List Nat):(k∉ws.map (·.1)/\bI kvs (km k)=none)\/∃w∈ws,w.1=k/\∃c,bI kvs (km k)=some (.ref c)/\LLN H c w.2:=by
 unfold WsV at h
 induction h with
 |nil=>exact .inl ⟨Jo,rfl⟩
 | @cons kv w kvs ws hd tl ih=>
  obtain ⟨e1,c,e2,hl⟩:=hd
  by_cases e:w.1=k
  ·refine .inr (zAC w Jo e (zn c ?_ hl));rw [c9 (by rw [e1,e]),e2]
  ·have ne:¬kv.1=km k:=fun z=>e (xR (e1.symm.trans z));rcases ih with ⟨h1,h2⟩ | ⟨w',hw',h1,c',h2,h3⟩
   ·refine .inl ⟨?_,by rw [bW ne];exact h2⟩;rw [dh,zq5];exact fun z=>z.elim (fun z=>e z.symm) h1
   ·exact .inr (zAC w' (zq9 _ hw') h1 (zn c' (by rw [bW ne];exact h2) h3))
theorem WsV.put{kvs:List (List Key×V)}{ws:List (List Nat×List (List Nat))}(h:WsV H kvs ws){k:List Nat}{c:Addr}{bss:List (List Nat)}(hc:LLN H c bss):WsV H (kvs++[(km k,.ref c)]) (ws++[(k,bss)]):=Paired.snoc h ⟨rfl,zn c rfl hc⟩
structure RoundH(H1 H:Hp)(wa lo:Addr)(o:Obj)(kvs:List (List Key×V))(ws acc:List (List Nat×List (List Nat))):Prop where
 same:Same H1 H
 fr:H1 lo=none
 old:H wa=some (.frz o (.dT kvs))
 wsv:WsV H kvs ws
 now:∃kv2,H lo=some (.dT kv2)/\WsV H kv2 acc
theorem RoundH.mv{H1:Hp}{wa lo:Addr}{o:Obj}{kvs:List (List Key×V)}{ws acc:List (List Nat×List (List Nat))}(h:RoundH H1 H wa lo o kvs ws acc)(s:Same H H'):RoundH H1 H' wa lo o kvs ws acc:=
 ⟨h.same.trans s,h.fr,s _ _ h.old,h.wsv.lst (LSt.of s),let ⟨kv2,e,r⟩:=h.now;(zn kv2 (s _ _ e) (r.lst (LSt.of s)))⟩
theorem RoundH.put{H1 H:Hp}{wa lo:Addr}{o:Obj}{kvs kv2:List (List Key×V)}{ws acc:List (List Nat×List (List Nat))}{k:List Nat}{c:Addr}{bss:List (List Nat)}(h:RoundH H1 H wa lo o kvs ws acc)(e:H lo=some (.dT kv2))(r:WsV H kv2 acc)(hk:k∉acc.map (·.1))(hc:LLN H c bss):
  RoundH H1 (upd H lo (.dT (kv2++[(km k,.ref c)]))) wa lo o kvs ws (GD.iD acc k bss):=by
 have ls:LSt H (upd H lo (.dT (kv2++[(km k,.ref c)]))):=LSt.upd e (by intro xs z;cases z);refine ⟨h.same.updM h.fr,h.fr,?_,h.wsv.lst ls,kv2++[(km k,.ref c)],aj,?_⟩
 ·rw [aq (bN h.old e (by intro z;cases z))];exact h.old
 ·unfold GD.iD;rw [if_neg hk];exact (r.put hc).lst ls
def q5(K:W.Frag):Sp:=fun vs H Q _=>∃(a b:Addr)(ds:List FB.Deed)(us:List Int),vs=[.ref a,.ref b]/\mt K H a b ds us/\∀c r bss H',Same H H'->LLN H' c bss->(List.range ds.length,bss)∈GD.cz (aQ ds) (soN ds) (uN us) ds.length r->(∀k,k<r->List.range ds.length∉(GD.cz (aQ ds) (soN ds) (uN us) ds.length k).map (·.1))->Q (.ref c) H'
theorem yQ{ty td:TE}{σ:L2.St}{H:Hp}{Q:VK}:uO ty td σ H Q=ty σ H fun y H1=>td σ H1 fun x H2=>∃a o,x=.ref a/\DGet H2 a y o/\Q (.bl (!o.isSome)) H2:=rfl
theorem yg(T:Txt K mg t)(hw:t.pr=w.params):FnOk P w K mg base CX0 14 t.f_23 t.e_23 ["deeds","units"] (q5 K):=by
 have G_24:=yh (P:=P) (base:=base) T hw;have G_25:=@Bl P w K mg base t T;refine T.d_23.F.ok sc_23 ∅ ?_;rintro cdv A outer s H vs Q E hr ⟨a,b,ds,us,rfl,hI,q⟩;have hu:=cT hr;refine ⟨_,
   (XSs.h
   (ai
    (ay (i:=2) sc_23.nd rfl ll (gH T.c_Layer T.d_24 G_24 hr.m (aa (yqv 0 vl) (aa (yqv 1 vl) ac)) gl))
   (ai
    (ay (i:=3) sc_23.nd rfl ll (sk rfl T.z_tuple T.z_range (aa (aB aD gl T.z_len PySem.boot_len (aa (yqv 0 vl) ac)) ac) gl gl))
   (ai
    (ay (i:=4) sc_23.nd rfl ll (sj hu (aP ac) (aT ac)))
   (ai
    (fm PassesOwn.never (Cp (si hu (yqv 3 vl) (yqv 4 vl)))
     (ai
      (ay (i:=5) sc_23.nd rfl ll wX)
     (ai
      (bu PassesOwn.never rfl (sq (yqv 4 vl)) (jD rfl (cN (aH (i:=6) sc_23.nd rfl ll) (cN (aH (i:=7) sc_23.nd rfl ll) iK)))
       (ak
        (bu PassesOwn.never rfl (b9 (aX T.c_Layer.cl T.d_25 G_25 hr.m (yqv 2 vl) (aa (yqv 6 vl) ac))) (aH (i:=8) sc_23.nd rfl ll)
         (ak
          (aY (c5 PySem.F.plainAttrs_dict PySem.F.slot_dict_setdefault PySem.F.type_dict_setdefault (kW hu) (yqv 5 vl) (aa (bL kT gl T.z_tuple boot_tuple (aa (aB ou gl T.z_sorted boot_sorted (aa (ax hZ (bL dI gl T.z_list boot_list (aa (yqv 6 vl) ac)) (yqv 8 vl)) ac)) ac)) (aa (ax hZ (yqv 7 vl) (aT (aa (yqv 8 vl) ac))) ac))))))))
     (ak
      (ay (i:=4) sc_23.nd rfl ll (yqv 5 vl))))))
   (ak
    (au (cu hu (yqv 4 vl) (yqv 3 vl) (fun _ _=>rfl))))))))),?_⟩
 rw [show aL _ [V.ref a,V.ref b]=[some (.ref a),some (.ref b),none,none,none,none,none,none,none] from rfl];simp_arith! [BZ,rL];intro ly dx hly hdx hne;refine zAI ly a b rfl (zAN H dx ds us ((Same.upd hdx).trans (Same.upd (by rw [aq hne.symm];exact hly))) hly aj hI fun H1 s1 L1=>⟨rfl,?_⟩);obtain ⟨xs,hS,hds,h8,hU,h3,hpos⟩:=hI;have lx:=hds.length;refine later ?_;simp_arith! [];refine zn xs (.inl (s1.seq hS)) (zAC ds.length (by rw [lx]) Jn fun ev hev=>?_);have s2:=s1.updN (o:=.tup ((List.range ds.length).map fun i:Nat=>V.int i)) hev;have L2:=L1.same (Same.upd (o:=.tup ((List.range ds.length).map fun i:Nat=>V.int i)) hev);have e2:upd H1 ev (.tup ((List.range ds.length).map fun i:Nat=>V.int i)) ev=some (.tup (nl (List.range ds.length))):=aj;generalize upd H1 ev (.tup ((List.range ds.length).map fun i:Nat=>V.int i))=H2 at s2 L2 e2 ⊢;refine later ?_;simp_arith! [];intro wa hwa tp htp li hli;have eW:=((Same.upd (o:=.tup []) htp).trans (Same.upd (o:=.lst []) hli)) wa _ aj;refine ⟨eW,zAA tp ([]) rfl (Same.upd hli _ _ aj) ?_⟩;have s3:Same H2 (upd (upd (upd (upd H2 wa (.dT [])) tp (.tup [])) li (.lst [])) wa (.dT [([],.ref li)])):=((Same.upd hwa).trans ((Same.upd htp).trans (Same.upd hli))).updM hwa;have e3:upd (upd (upd (upd H2 wa (.dT [])) tp (.tup [])) li (.lst [])) wa (.dT [([],.ref li)]) wa=some (.dT [([],.ref li)]):=aj;have w3:WsV (upd (upd (upd (upd H2 wa (.dT [])) tp (.tup [])) li (.lst [])) wa (.dT [([],.ref li)])) [([],.ref li)] (GD.cz (aQ ds) (soN ds) (uN us) ds.length 0):=
  .cons ⟨rfl,zn li rfl (zn ([]) (by rw [aq (ao (Same.upd htp _ _ aj) hli).symm];exact aj) .nil)⟩ .nil
 generalize upd (upd (upd (upd H2 wa (.dT [])) tp (.tup [])) li (.lst [])) wa (.dT [([],.ref li)])=H3 at s3 e3 w3 ⊢;refine later ?_;simp_arith! [];have hpos2:=L2.pos;obtain ⟨n,hn⟩:∃n,n=ds.length:=⟨_,rfl⟩
 rw [<- hn] at e2 w3 q h8;obtain ⟨dx2,ub,sb,gb,qs,hob,_⟩:=L2.ob;refine ⟨fun m σ H'=>∃(r:Nat)(wa:Addr)(kvs:List (List Key×V)) (o5 o6 o7 o8:Option V),m=n-r/\σ=[some (.ref a),some (.ref b),some (.ref ly),some (.ref ev),some (.ref wa),o5,o6,o7,o8]/\Same H2 H'/\H2 wa=none/\H' wa=some (.dT kvs)/\WsV H' kvs (GD.cz (aQ ds) (soN ds) (uN us) n r)/\∀k,k<r->List.range n∉(GD.cz (aQ ds) (soN ds) (uN us) n k).map (·.1),
  (zBD _ 0 wa _ none none none none (zAT rfl rfl s3 hwa e3 w3 fun k hk=>absurd hk Jn)),?_⟩
 rintro m σ H4 ⟨r,wb,kvs,o5,o6,o7,o8,rfl,rfl,s4,hwb,e4,w4,hno⟩;simp_arith! [yQ];refine zAA wb _ rfl (DGet.t (k:=km (List.range n)) e4 (by rw [tN];exact s4 _ _ e2)) ?_;rcases w4.val (List.range n) with ⟨hk,hv⟩ | ⟨w',hw',hk',c,hv,hl⟩
 ·rw [hv,if_pos (show (!(none:Option V).isSome)=true from rfl)];have hlt:r<n:=GD.Cf hpos2 fun k hk2=>by
   by_cases e:k=r
   ·rw [e];exact hk
   ·exact hno k Jn
  refine ⟨fun σ H'=>∃(wa:Addr)(kvs:List (List Key×V)) (o5 o6 o7 o8:Option V),σ=[some (.ref a),some (.ref b),some (.ref ly),some (.ref ev),some (.ref wa),o5,o6,o7,o8]/\Same H2 H'/\H2 wa=none/\H' wa=some (.dT kvs)/\WsV H' kvs (GD.cz (aQ ds) (soN ds) (uN us) n (r+1)),?_,?_⟩
  ·rintro σ' H' ⟨wc,kv2,p5,p6,p7,p8,rfl,z1,z2,z3,z4⟩;refine zn (n-(r+1)) Jn (zBP (r+1) wc kv2 p5 p6 p7 p8 rfl rfl z1 z2 z3 z4 fun k hk2=>?_)
   by_cases e:k=r
   ·rw [e];exact hk
   ·exact hno k Jn
  intro lo hlo;refine later ?_;simp_arith! [];have sl:=Same.upd (o:=.dT []) hlo;refine zAA wb kvs rfl (sl _ _ e4) fun o=>?_;have nlw:lo≠wb:=(ao e4 hlo).symm;have R0:RoundH H2 (upd (upd H4 lo (.dT [])) wb (.frz o (.dT kvs))) wb lo o kvs (GD.cz (aQ ds) (soN ds) (uN us) n r) []:=
   ⟨(s4.trans sl).updM hwb,s4.free hlo,aj,w4.lst ((LSt.of sl).trans (LSt.upd (sl _ _ e4) (by intro xs z;cases z))),[],by rw [aq nlw];exact aj,.nil⟩
  generalize upd (upd H4 lo (.dT [])) wb (.frz o (.dT kvs))=H6 at R0 ⊢;have lw:=w4.length;have wok:=GD.iI (G:=aQ ds) (so:=soN ds) (U:=uN us) (n:=n) r;have hstep:GD.cz (aQ ds) (soN ds) (uN us) n (r+1)=(GD.cz (aQ ds) (soN ds) (uN us) n r).foldl (fun acc w=>GD.ee n acc w (GD.cq (aQ ds) (soN ds) (uN us) n w.1)) []:=rfl;rw [hstep];generalize GD.cz (aQ ds) (soN ds) (uN us) n r=ws at lw wok R0 ⊢;refine xE (fun i σ H'=>RoundH H2 H' wb lo o kvs ws ((ws.take i).foldl (fun acc w=>GD.ee n acc w (GD.cq (aQ ds) (soN ds) (uN us) n w.1)) [])/\∃o6 o7 o8,σ=[some (.ref a),some (.ref b),some (.ref ly),some (.ref ev),some (.ref wb),some (.ref lo),o6,o7,o8]) ⟨R0,zAK _ _ _ rfl⟩ (fun i σ H' _ h=>h.1.old) ?_ ?_
  ·rintro i k v bb σ H7 p hki hb hp ⟨R,o6,o7,o8,rfl⟩;obtain ⟨w,hwi,ek,c,ev2,hlc⟩:=Paired.get R.wsv hki;subst ev2;subst ek;obtain ⟨hi,ei⟩:=zq10.mp hwi;simp_arith! [rL];refine zAC _ (SqT.of aj) rfl ?_;have sp:=Same.upd (o:=.tup [.ref bb,.ref c]) hp;have R8:=R.mv sp;have hb8:=sp _ _ hb;have hlc8:=hlc.same sp;generalize upd H7 p (.tup [.ref bb,.ref c])=H8 at R8 hb8 hlc8 ⊢;rw [tN] at hb8;simp_arith! [rL];refine bB (R8.same _ _ hob) rfl (zAO ds us w.1 (L2.same R8.same) (SqT.of hb8) fun c2 H9 s9 hl9=>?_);rw [<- hn] at hl9;obtain ⟨ps,hc2,hps⟩:=hl9;have lps:=hps.length;have R9:=R8.mv s9;have hl:=wok.lay w (zq4 hwi);obtain ⟨acc,hacc⟩:∃acc,acc=(ws.take i).foldl (fun acc w=>GD.ee n acc w (GD.cq (aQ ds) (soN ds) (uN us) n w.1)) []:=⟨_,rfl⟩
   have eacc:(ws.take (i+1)).foldl (fun acc w=>GD.ee n acc w (GD.cq (aQ ds) (soN ds) (uN us) n w.1)) []=GD.ee n acc w (GD.cq (aQ ds) (soN ds) (uN us) n w.1):=by rw [eN hi,ei,sF,hacc];rfl
   have aok:GD.WOk (aQ ds) (soN ds) (uN us) n (r+1) acc:=by rw [hacc];exact GD.WOk.step _ _ (fun x hx=>wok.lay x (v9 hx)) ⟨fun x hx=>(by cases hx),Jo⟩
   rw [eacc];rw [<- hacc] at R9;have hfine:∀b∈GD.cq (aQ ds) (soN ds) (uN us) n w.1,GD.Fine (aQ ds) (soN ds) (uN us) w.1 (GD.cE n w.1) b/\b∈GD.cq (aQ ds) (soN ds) (uN us) n w.1:=fun b hb=>⟨GD.iT hpos2 hb,hb⟩
   generalize hbs:GD.cq (aQ ds) (soN ds) (uN us) n w.1=bs at hps hfine lps ⊢;refine zAC c2 rfl ⟨_,SqL.of hc2⟩ ?_;refine cA (xs:=ps.map V.ref) (fun j σ H'=>RoundH H2 H' wb lo o kvs ws (GD.ee n acc w (bs.take j))/\LSt H9 H'/\H' bb=some (.tup (nl w.1))/\∃o8,σ=[some (.ref a),some (.ref b),some (.ref ly),some (.ref ev),some (.ref wb),some (.ref lo),some (.ref bb),some (.ref c),o8]) (zAG (by simpa [GD.ee] using R9) (fun _ _ e=>e) (s9 _ _ hb8) ⟨_,rfl⟩) (fun j σ H' _ h=>SqL.of (h.2.1 _ _ hc2)) ?_ ?_
   ·rintro j x σ H10 hx ⟨R10,ls,hb10,o9,rfl⟩;rw [cf] at hx;obtain ⟨bp,hbp,rfl⟩:=zq27.mp hx;obtain ⟨bt,hbt,hpb⟩:=Paired.get hps hbp;obtain ⟨hj,ej⟩:=zq10.mp hbt;obtain ⟨hf,hff⟩:=hfine bt (zq4 hbt);rwa [];obtain ⟨kv2,elo,wlo⟩:=R10.now;have hcan:=hl.1.can;have hwl:w.1.length<=8:=by have:=hcan.len;omega
    have hbl:bt.length<=8:=by have:=hf.sub.length_le;have:=oX (n:=n) (dn:=w.1);omega
    have aok':GD.WOk (aQ ds) (soN ds) (uN us) n (r+1) (GD.ee n acc w (bs.take j)):=GD.WOk.add hl.1 hl.2 _ _ (fun b hb=>by rw [hbs];exact (hfine b (v9 hb)).2) aok;have hkl:kv2.length<=256:=by rw [wlo.length];exact cR aok'.len (cR (Aq Jm h8) Jm)
    obtain ⟨cs,hcc,hcs⟩:=(hlc8.same s9).lst ls;have lcs:=hcs.length;have lr:=hl.2;refine ⟨.inr (.inr (.inl ⟨rfl,.inr ⟨kv2,elo⟩⟩)),zn (nl w.1) (.inr (SqT.of hb10)) fun l1 hl1=>zAE (nl w.1) (nl bt) aj (Same.upd hl1 _ _ (ls _ _ hpb)) (by rw [fA,fA,sizeLine_eq];omega) fun l2 hl2=>?_⟩;have Sb:=(Same.upd (o:=.lst (nl w.1)) hl1).trans (Same.upd (o:=.lst (nl w.1++nl bt)) hl2);have eb:upd (upd H10 l1 (.lst (nl w.1))) l2 (.lst (nl w.1++nl bt)) l2=some (.lst (((w.1++bt).map fun p:Nat=>(p:Int)).map V.int)):=by rw [aj,fM,cS];rfl
    generalize upd (upd H10 l1 (.lst (nl w.1))) l2 (.lst (nl w.1++nl bt))=Hb at Sb eb ⊢;refine zAC _ (SqL.of eb) (by rw [zq1,zq3];omega) fun l3 ns' hl3 hperm hsort=>?_;have ens:ns'=(GD.d8 n w.1 bt).map fun p:Nat=>(p:Int):=List.Perm.eq_of_pairwise (fun x y _ _ h1 h2=>Int.le_antisymm h1 h2) hsort (List.pairwise_map.mpr ((GD.mF (n:=n) (dn:=w.1) (b:=bt)).sorted.imp fun h=>Jn)) (hperm.trans ((GD.k9 hcan hf.sub).map _));subst ens;have Sc:=Sb.trans (Same.upd (o:=.lst (((GD.d8 n w.1 bt).map fun p:Nat=>(p:Int)).map V.int)) hl3);have ec:upd Hb l3 (.lst (((GD.d8 n w.1 bt).map fun p:Nat=>(p:Int)).map V.int)) l3=some (.lst (nl (GD.d8 n w.1 bt))):=by rw [aj,fM];rfl
    generalize upd Hb l3 (.lst (((GD.d8 n w.1 bt).map fun p:Nat=>(p:Int)).map V.int))=Hc at Sc ec ⊢;refine ⟨_,.inl ⟨SqL.of ec,fun l4 hl4 l5 hl5=>zAE (cs.map V.ref) ([.ref bp]) (((Sc.trans (Same.upd hl4)).trans (Same.upd hl5)) _ _ hcc) aj (by rw [zq1,cG,sizeLine_eq];omega) fun l6 hl6=>?_⟩⟩;have Se:=(Same.upd (o:=.lst [V.ref bp]) hl5).trans (Same.upd (o:=.lst (cs.map V.ref++[.ref bp])) hl6);have Sf:=(Sc.trans (Same.upd (o:=.tup (nl (GD.d8 n w.1 bt))) hl4)).trans Se;have e4':upd (upd (upd Hc l4 (.tup (nl (GD.d8 n w.1 bt)))) l5 (.lst [V.ref bp])) l6 (.lst (cs.map V.ref++[.ref bp])) l4=some (.tup (nl (GD.d8 n w.1 bt))):=Se _ _ aj;have e6:LLN (upd (upd (upd Hc l4 (.tup (nl (GD.d8 n w.1 bt)))) l5 (.lst [V.ref bp])) l6 (.lst (cs.map V.ref++[.ref bp]))) l6 (w.2++[bt]):=zn (cs++[bp]) (by rw [aj,cS];rfl) (Paired.snoc (Paired.mapP hcs fun _ _ z=>Sf _ _ z) (Sf _ _ (ls _ _ hpb)))
    generalize upd (upd (upd Hc l4 (.tup (nl (GD.d8 n w.1 bt)))) l5 (.lst [V.ref bp])) l6 (.lst (cs.map V.ref++[.ref bp]))=Hf at Sf e4' e6 ⊢;have eadd:GD.ee n acc w (bs.take (j+1))=GD.iD (GD.ee n acc w (bs.take j)) (GD.d8 n w.1 bt) (w.2++[bt]):=by rw [eN hj,ej];unfold GD.ee;rw [sF];rfl
    rw [eadd];have R11:=R10.mv Sf;have wlo':=wlo.lst (LSt.of Sf);refine zAS kv2 (km (GD.d8 n w.1 bt)) (Sf _ _ elo) (by rw [tN];exact e4') (by rw [sizeLine_eq];omega) (fun y hy=>?_) fun hy=>?_
    ·rcases wlo'.val (GD.d8 n w.1 bt) with ⟨_,hv2⟩ | ⟨w2,hw2,hk2,_⟩
     ·rw [hy] at hv2;cases hv2
     ·unfold GD.iD;rw [if_pos (zq21.mpr ⟨w2,hw2,hk2⟩)];exact zAG R11 (ls.trans (LSt.of Sf)) (Sf _ _ hb10) ⟨_,rfl⟩
    ·rcases wlo'.val (GD.d8 n w.1 bt) with ⟨hk2,_⟩ | ⟨_,_,_,_,hv2,_⟩
     ·refine zAG (R11.put (Sf _ _ elo) wlo' hk2 e6) ((ls.trans (LSt.of Sf)).trans (LSt.upd (Sf _ _ elo) (by intro xs z;cases z))) ?_ ⟨_,rfl⟩;rw [aq (bN (Sf _ _ hb10) (Sf _ _ elo) (by intro z;cases z))];exact Sf _ _ hb10
     ·rw [hy] at hv2;cases hv2
   ·rintro σ H10 ⟨R10,ls,hb10,o9,rfl⟩;rw [zq1,lps,eO] at R10;exact ⟨R10,zAK _ _ _ rfl⟩
  ·rintro σ H7 ⟨R,o6,o7,o8,rfl⟩;rw [lw,eO] at R;refine later ?_;rwa [];obtain ⟨kv2,e7,w7⟩:=R.now;refine later ?_;rwa [];exact zAZ lo kv2 _ _ _ _ (zAJ rfl R.same R.fr e7 w7)
 ·rw [hv];rw [if_neg Jo];refine later ?_;rwa [];refine zAA wb _ rfl (by have z:=DGet.t (k:=km (List.range n)) e4 (by rw [tN];exact s4 _ _ e2);rw [hv] at z;exact z) ?_;exact q c r w'.2 H4 (s2.trans s4) hl (by rw [<- hk'];exact hw') hno
theorem nO{n:Nat}{w x:List Nat×List (List Nat)}:∀(bs:List (List Nat)) (acc:List (List Nat×List (List Nat))),x∈GD.ee n acc w bs->x∈acc\/∃b∈bs,x=(GD.d8 n w.1 b,w.2++[b])
 | [],_,h=>.inl h
 |b::bs,acc,h=>by
  rcases nO bs _ h with h | ⟨c,hc,e⟩
  ·rcases GD.iZ h with h | h
   ·exact .inl h
   ·exact .inr (zn b Jo h)
  ·exact .inr (zn c (zq9 _ hc) e)
theorem qt{n:Nat}{G:Nat->Nat->Option Int}{so:Nat->Nat}{U:Nat->Int}{x:List Nat×List (List Nat)}:∀(ws acc:List (List Nat×List (List Nat))),x∈ws.foldl (fun acc w=>GD.ee n acc w (GD.cq G so U n w.1)) acc->x∈acc\/∃w∈ws,∃b∈GD.cq G so U n w.1,x=(GD.d8 n w.1 b,w.2++[b])
 | [],_,h=>.inl h
 |w::ws,acc,h=>by
  rcases qt ws _ h with h | ⟨v,hv,e⟩
  ·rcases nO _ _ h with h | ⟨b,hb,e⟩
   ·exact .inl h
   ·exact .inr (zn w Jo (zn b hb e))
  ·exact .inr (zn v (zq9 _ hv) e)
structure gM(G:Nat->Nat->Option Int)(so:Nat->Nat)(U:Nat->Int)(bss:List (List Nat))(dn:List Nat):Prop where
 ne:∀b∈bss,b≠[]
 srt:∀b∈bss,b.Pairwise (· < ·)
 perm:bss.flatten.Perm dn
 load:∀b∈bss,∀s,s<3->(GD.fR so b s:Int)<=U s
 lean:∀(i:Nat)b k,bss[i]?=some b->k∈b->∀j,j<k->∀l,G j k=some l->∃(i':Nat)(b':List Nat),bss[i']?=some b'/\j∈b'/\(i':Int)+l<=i
theorem mq{n:Nat}{G:Nat->Nat->Option Int}{so:Nat->Nat}{U:Nat->Int}(hU:∀s,s<3->0<U s)(hG:∀j k l,G j k=some l->l<=1):∀r,(∀k,k<r->List.range n∉(GD.cz G so U n k).map (·.1))->∀w∈GD.cz G so U n r,gM G so U w.2 w.1
 |0,_,w,hw=>by
  rw [GD.cz,zq2] at hw;subst hw;exact ⟨fun b h=>(by cases h),fun b h=>(by cases h),.refl _,fun b h=>(by cases h),fun i b k h=>by simp at h⟩
 |r+1,hno,w,hw=>by
  rcases qt _ _ hw with h | ⟨v,hv,b,hb,rfl⟩
  ·cases h
  have ih:=mq hU hG r (fun k hk=>hno k Jn) v hv;have hcan:=((GD.iI r).lay v hv).1.can;have hne:v.1≠List.range n:=fun e=>hno r Jn (zq21.mpr (zn v hv e));have fb:=GD.iT hU hb;refine ⟨fun c hc=>?_,fun c hc=>?_,?_,fun c hc=>?_,fun i c k hi hk j hj l hl=>?_⟩
  ·rcases zq15.mp hc with hc | hc
   ·exact ih.ne c hc
   ·rw [zq2.mp hc];exact GD.tH hU hb (hcan.miss hne)
  ·rcases zq15.mp hc with hc | hc
   ·exact ih.srt c hc
   ·rw [zq2.mp hc];exact List.Pairwise.sublist fb.sub GD.fX
  ·rw [List.flatten_append];simp only [List.flatten_cons,List.flatten_nil,List.append_nil];exact (ih.perm.append_right b).trans (GD.k9 hcan fb.sub)
  ·rcases zq15.mp hc with hc | hc
   ·exact ih.load c hc
   ·rw [zq2.mp hc];exact fb.load
  ·by_cases hlt:i<v.2.length
   ·rw [jr hlt] at hi;obtain ⟨i',b',h1,h2,h3⟩:=ih.lean i c k hi hk j hj l hl;have:=(zq10.mp h1).1;exact zAA i' b' (by rw [jr this];exact h1) h2 h3
   ·have hil:=(zq10.mp hi).1;rw [zq3,cG] at hil;obtain rfl:i=v.2.length:=by omega
    rw [j9 (zq0 _),nL] at hi
    cases hi
    have z:=fb.lean k hk j hj;unfold GD.d6 at z;rw [hl] at z;simp only [Bool.or_eq_true,Bool.and_eq_true,decide_eq_true_eq] at z;rcases z with z | ⟨z1,z2⟩
    ·obtain ⟨b',hb',hjb⟩:=zq80.mp (ih.perm.mem_iff.mpr z);obtain ⟨i',hi',e⟩:=List.mem_iff_getElem.mp hb';refine zAA i' b' (by rw [jr hi',zq8 hi',e]) hjb ?_;have:=hG j k l hl;omega
    ·exact zAA v.2.length b (by rw [j9 (zq0 _),nL];rfl) z2 Jn
theorem Dp{ds:List FB.Deed}{j k:Nat}{l:Int}(h:aQ ds j k=some l):0<=l/\l<=1:=by
 unfold aQ at h
 split at h
 ·unfold FB.jm at h
  split at h
  ·cases h;decide
  ·split at h
   ·cases h;decide
   ·split at h
    ·cases h;decide
    ·cases h
 ·cases h
variable {i:Nat} {us:List Int}
def cg(ds:List FB.Deed)(p:Nat):FB.Deed:=ds.getD p (.tell (.word 0))
def aO(ds:List FB.Deed)(bss:List (List Nat)):List (List FB.Deed):=bss.map fun b=>b.map (cg ds)
def wrB(ds:List FB.Deed)(n:Str):Bool:=ds.any fun d=>decide (wrV d=.str n)
def eV(bs:List (List FB.Deed)):List FB.Deed:=bs.getLastD []
def ji(bs:List (List FB.Deed)):FZ.Ed->Bool
 | .choose n _ _=>wrB (eV bs) n
 |_=>false
def cc(b:FZ.Blk)(bss:List (List Nat)):List (List FB.Deed):=if (aO b.ds bss).isEmpty || ji (aO b.ds bss) b.ed then aO b.ds bss++[[]] else aO b.ds bss
def rm(fs:List Nat):FZ.Ed->FZ.Ed
 | .stop=>.stop
 | .go i=>.go (fs.getD i 0)
 | .choose n i j=>.choose n (fs.getD i 0) (fs.getD j 0)
def fI(l:List (List (List FB.Deed))):Nat:=(l.map List.length).sum
def bJ(bbs:List (List (List FB.Deed))):List Nat:=(List.range bbs.length).map fun i=>fI (bbs.take i)
def g8(m:Nat)(bs:List (List FB.Deed))(ed:FZ.Ed):List FZ.Blk:=(bs.dropLast.mapIdx fun j d=>⟨d,.go (m+j+1)⟩)++[⟨eV bs,ed⟩]
def mz(fs:List Nat)(acc:List FZ.Blk)(p:FZ.Blk×List (List FB.Deed)):List FZ.Blk:=acc++g8 acc.length p.2 (rm fs p.1.ed)
def j2(B:List FZ.Blk)(bbs:List (List (List FB.Deed))):List FZ.Blk:=(B.zip bbs).foldl (mz (bJ bbs)) []
def eP(us:List Int)(b:FZ.Blk)(bs:List (List FB.Deed)):Prop:=∃bss,gM (aQ b.ds) (soN b.ds) (uN us) bss (List.range b.ds.length)/\bs=cc b bss
theorem iO{b:FZ.Blk}{bss:List (List Nat)}:cc b bss≠[]:=by
 unfold cc
 split
 ·simp
 ·next h=>intro z;rw [z] at h;exact h rfl
theorem mP{bs:List (List FB.Deed)}(h:bs≠[]):bs=bs.dropLast++[eV bs]:=by unfold eV;rw [AB,List.getLast?_eq_some_getLast h,Option.getD_some];exact (v8 h).symm
theorem lZ{m:Nat}{bs:List (List FB.Deed)}{ed:FZ.Ed}(h:bs≠[]):(g8 m bs ed).length=bs.length:=by unfold g8;rw [zq3,x4,kN,cG];have:=zq74.mpr h;omega
theorem pM{m:Nat}{bs:List (List FB.Deed)}{ed:FZ.Ed}(h:bs≠[]):∀r∈g8 m bs ed,r.ds∈bs:=fun r hr=>by
 unfold g8 at hr;rw [mP h];rcases zq15.mp hr with hr | hr
 ·obtain ⟨j,hj,e⟩:=List.mem_mapIdx.mp hr;rw [<- e];exact l8 _ (lu _)
 ·rw [zq2.mp hr];exact eM _ (zq2.mpr rfl)
theorem pN{m:Nat}{bs:List (List FB.Deed)}{ed:FZ.Ed}(h:bs≠[]):∀r∈g8 m bs ed,r.ed=ed\/∃k,r.ed=.go k/\k<m+bs.length:=fun r hr=>by
 unfold g8 at hr;rcases zq15.mp hr with hr | hr
 ·obtain ⟨j,hj,e⟩:=List.mem_mapIdx.mp hr;rw [<- e];rw [kN] at hj;exact .inr (zn _ rfl Jn)
 ·rw [zq2.mp hr];exact .inl rfl
theorem fh{bbs:List (List (List FB.Deed))}{bs:List (List FB.Deed)}(h:bbs[i]?=some bs):fI (bbs.take (i+1))=fI (bbs.take i)+bs.length:=by obtain ⟨hi,e⟩:=zq10.mp h;unfold fI;rw [eN hi,e,cS,List.sum_append];simp
theorem nA{bbs:List (List (List FB.Deed))}(i:Nat):fI (bbs.take i)<=fI bbs:=by
 unfold fI
 conv=>rhs;rw [<- vd i bbs,cS,List.sum_append]
 exact lA _ _
theorem gm{bbs:List (List (List FB.Deed))}(hne:∀bs∈bbs,bs≠[])(hi:i<bbs.length):(bJ bbs).getD i 0=fI (bbs.take i)/\fI (bbs.take i)<fI bbs:=by
 refine ⟨?_,?_⟩
 ·unfold bJ;rw [fN,cf,AA hi];rfl
 ·have h1:=fh (zq8 hi);have h2:=nA (bbs:=bbs) (i+1);have h3:=zq74.mpr (hne _ (lu hi));omega
def gK(B:List FZ.Blk)(bbs:List (List (List FB.Deed)))(i:Nat):List FZ.Blk:=((B.zip bbs).take i).foldl (mz (bJ bbs)) []
theorem dU{B:List FZ.Blk}{bbs:List (List (List FB.Deed))}{b:FZ.Blk}{bs:List (List FB.Deed)}(hb:B[i]?=some b)(hs:bbs[i]?=some bs):gK B bbs (i+1)=mz (bJ bbs) (gK B bbs i) (b,bs):=by
 have hz:(B.zip bbs)[i]?=some (b,bs):=by rw [List.getElem?_zip_eq_some];exact ⟨hb,hs⟩
 obtain ⟨hi,e⟩:=zq10.mp hz;unfold gK;rw [eN hi,e,sF];rfl
theorem g9{B:List FZ.Blk}{bbs:List (List (List FB.Deed))}(hl:B.length=bbs.length):gK B bbs B.length=j2 B bbs:=by unfold gK j2;rw [kP (by rw [List.length_zip];omega)]
theorem gc{B:List FZ.Blk}{bbs:List (List (List FB.Deed))}(hl:B.length=bbs.length)(hne:∀bs∈bbs,bs≠[]):∀i,i<=B.length->(gK B bbs i).length=fI (bbs.take i)
 |0,_=>rfl
 |i+1,hi=>by have hb:B[i]?=some B[i]:=zq8 Jn;have hs:bbs[i]?=some bbs[i]:=zq8 Jn;rw [dU hb hs,fh hs,mz,zq3,gc hl hne i Jn,lZ (hne _ (lu _))]
theorem zT{ns:List Str}{w:Int}{us:List Int}{B:List FZ.Blk}{bbs:List (List (List FB.Deed))}(hl:B.length=bbs.length)(hne:∀bs∈bbs,bs≠[])(hG:FZ.i4 ns w B.length B)(hd:∀(i:Nat)b bs,B[i]?=some b->bbs[i]?=some bs->∀l∈bs,l.length<=8/\∀d∈l,d∈b.ds):
  ∀i,i<=B.length->FZ.i4 ns w (fI bbs) (gK B bbs i)
 |0,_=>fun r hr=>by cases hr
 |i+1,hi=>fun r hr=>by
  have hb:B[i]?=some B[i]:=zq8 Jn;have hs:bbs[i]?=some bbs[i]:=zq8 Jn;have hn:=hne _ (zq4 hs);rw [dU hb hs,mz] at hr;rcases zq15.mp hr with hr | hr
  ·exact zT (us:=us) hl hne hG hd i Jn r hr
  have hbG:=hG _ (zq4 hb);have h1:=hd i _ _ hb hs r.ds (pM hn r hr);have ht:∀k,k∈B[i].ed.tg->(bJ bbs).getD k 0<fI bbs:=fun k hk=>by have hz:=gm hne (i:=k) (by have:=hbG.tg k hk;omega);rw [hz.1];exact hz.2
  refine ⟨fun d hd2=>hbG.gd d (h1.2 d hd2),h1.1,?_,?_⟩
  ·rcases pN hn r hr with e | ⟨k,e,hk⟩
   ·rw [e]
    cases he:B[i].ed with
    |stop=>intro z hz;cases hz
    |go k=>rw [he] at ht;intro z hz;rw [zq2.mp hz];exact ht k (by simp [FZ.Ed.tg])
    |choose n k j=>
     rw [he] at ht;intro z hz;have hz':z∈[(bJ bbs).getD k 0,(bJ bbs).getD j 0]:=hz;rcases zq5.mp hz' with y | y
     ·rw [y];exact ht k (by simp [FZ.Ed.tg])
     ·rw [zq2.mp y];exact ht j (by simp [FZ.Ed.tg])
   ·rw [e];intro z hz;rw [zq2.mp hz];rw [gc hl hne i Jn] at hk;have h2:=fh hs;have h3:=nA (bbs:=bbs) (i+1);omega
  ·intro n k j e2;rcases pN hn r hr with e | ⟨k',e,_⟩
   ·rw [e] at e2
    cases he:B[i].ed with
    |stop=>rw [he] at e2;cases e2
    |go k=>rw [he] at e2;cases e2
    |choose n' k' j'=>rw [he] at e2;cases e2;exact hbG.nm n k' j' he
   ·rw [e] at e2;cases e2
theorem uR{B:List FZ.Blk}{bbs:List (List (List FB.Deed))}(hl:B.length=bbs.length)(hne:∀bs∈bbs,bs≠[]){Z:List FB.Deed->Prop}(hz:∀bs∈bbs,∀l∈bs,Z l):∀i,i<=B.length->∀r∈gK B bbs i,Z r.ds
 |0,_=>fun r hr=>by cases hr
 |i+1,hi=>fun r hr=>by
  have hb:B[i]?=some B[i]:=zq8 Jn;have hs:bbs[i]?=some bbs[i]:=zq8 Jn;rw [dU hb hs,mz] at hr;rcases zq15.mp hr with hr | hr
  ·exact uR hl hne hz i Jn r hr
  ·exact hz _ (zq4 hs) _ (pM (hne _ (zq4 hs)) r hr)
structure BeatP(us:List Int)(l:List FB.Deed):Prop where
 one:l.Pairwise fun d e=>¬(d.tells=true/\e.tells=true)/\∀n∈d.writes,n∉e.writes
 load:∀s,s<3->((l.countP fun d=>decide (m6 d=s)):Int)<=uN us s
theorem BeatP.nil(h:∀s,s<3->0<=uN us s):BeatP us []:=⟨.nil,fun s hs=>h s hs⟩
theorem fT:∀{bss:List (List Nat)} {i i':Nat} {b b':List Nat} {j:Nat},bss.flatten.Nodup->bss[i]?=some b->bss[i']?=some b'->j∈b->j∈b'->i=i'
 | [],i,i',b,b',j,_,h,_,_,_=>by simp at h
 |c::r,i,i',b,b',j,nd,h,h',m,m'=>by
  rw [AC,zq63] at nd
  match i,i',h,h' with
  |0,0,_,_=>rfl
  |0,k+1,h,h'=>
   cases h
   exact absurd rfl (nd.2.2 j m j (zq80.mpr (zn b' (zq4 h') m')))
  |k+1,0,h,h'=>
   cases h'
   exact absurd rfl (nd.2.2 j m' j (zq80.mpr (zn b (zq4 h) m)))
  |k+1,k'+1,h,h'=>rw [fT nd.2.1 h h' m m']
theorem eU{ds:List FB.Deed}{bss:List (List Nat)}(h:gM (aQ ds) (soN ds) (uN us) bss (List.range ds.length)):∀b∈bss,BeatP us (b.map (cg ds))/\b.length<=ds.length/\∀p∈b,p<ds.length:=fun b hb=>by
 have nd:bss.flatten.Nodup:=h.perm.nodup_iff.mpr AN;have lt:∀p∈b,p<ds.length:=fun p hp=>zq36.mp (h.perm.mem_iff.mp (zq80.mpr (zn b hb hp)));obtain ⟨i,hi⟩:=zq66.mp hb;refine zAB ⟨?_,fun s hs=>?_⟩ ?_ lt
 ·rw [List.pairwise_map];refine List.Pairwise.imp_of_mem (fun {j k} hj hk hjk=>?_) (h.srt b hb);have no:aQ ds j k≠some 1:=fun e=>by obtain ⟨i',b',h1,h2,h3⟩:=h.lean i b k hi hk j hjk 1 e;have:=fT nd hi h1 hj h2;omega
  have e1:ds[j]?=some (cg ds j):=by unfold cg;rw [fN,zq8 (lt j hj)];rfl
  have e2:ds[k]?=some (cg ds k):=by unfold cg;rw [fN,zq8 (lt k hk)];rfl
  unfold aQ at no;rw [e1,e2] at no;dsimp only at no;unfold FB.jm at no;refine ⟨fun z=>?_,fun n hn hn2=>?_⟩
  ·rw [if_pos z] at no;exact no rfl
  ·split at no
   ·exact no rfl
   ·rw [if_pos ⟨n,hn,.inr hn2⟩] at no;exact no rfl
 ·have z:=h.load b hb s hs;unfold GD.fR at z;rw [List.countP_map];exact z
 ·have z:=h.perm.length_eq;rw [gL] at z;have:=(List.sublist_flatten_of_mem hb).length_le;omega
theorem cW{b:FZ.Blk}{bs:List (List FB.Deed)}(hu:∀s,s<3->0<=uN us s)(h8:b.ds.length<=8)(h:eP us b bs):bs≠[]/\∀l∈bs,BeatP us l/\l.length<=8/\∀d∈l,d∈b.ds:=by
 obtain ⟨bss,hg,rfl⟩:=h;refine ⟨iO,fun l hl=>?_⟩;have old:l∈aO b.ds bss->BeatP us l/\l.length<=8/\∀d∈l,d∈b.ds:=fun hl=>by obtain ⟨c,hc,rfl⟩:=zq21.mp hl;obtain ⟨h1,h2,h3⟩:=eU hg c hc;refine zAB h1 (by rw [zq1];omega) fun d hd=>?_;obtain ⟨p,hp,rfl⟩:=zq21.mp hd;unfold cg;rw [fN,zq8 (h3 p hp)];exact lu _
 unfold cc at hl
 split at hl
 ·rcases zq15.mp hl with hl | hl
  ·exact old hl
  ·rw [zq2.mp hl];exact zAB (BeatP.nil hu) (ce _) fun d hd=>by cases hd
 ·exact old hl
def qI(l:List FB.Deed):List Str:=l.flatMap FB.Deed.writes
def bfB(us:List Int)(l:List FB.Deed):Bool:=decide ((dM (qI l)).length=(qI l).length)&&decide (l.length<=(qI l).length+1)&&(List.range 3).all fun s=>decide (((l.countP fun d=>decide (m6 d=s)):Int)<=uN us s)
theorem F3{d:FB.Deed}:d.writes.length=if d.tells then 0 else 1:=by cases d<;>rfl
theorem A3:∀{l:List FB.Deed},(l.Pairwise fun d e=>¬(d.tells=true/\e.tells=true)/\∀n∈d.writes,n∉e.writes)->(qI l).Nodup/\l.length<=(qI l).length+1/\((∀d∈l,d.tells=false)->(qI l).length=l.length)
 | [],_=>zAB Cv (ce _) fun _=>rfl
 |d::l,h=>by
  rw [zq79] at h;obtain ⟨h1,h2,h3⟩:=A3 h.2;have e:qI (d::l)=d.writes++qI l:=rfl;rw [e,zq3,dk,F3];refine zAB (zq63.mpr (zAB (by cases d<;>simp [FB.Deed.writes]) h1 fun a ha b hb ab=>?_)) ?_ fun z=>?_
  ·subst ab;obtain ⟨c,hc,hac⟩:=zq106.mp hb;exact (h.1 c hc).2 a ha hac
  ·split
   ·next ht=>
    have:=h3 fun c hc=>by
     cases hct:c.tells with
     |false=>rfl
     |true=>exact absurd ⟨ht,hct⟩ (h.1 c hc).1
    omega
   ·omega
  ·rw [if_neg (by rw [z d Jo];decide),h3 fun c hc=>z c (zq9 _ hc)];omega
theorem BeatP.bf{l:List FB.Deed}(h:BeatP us l):bfB us l=true:=by obtain ⟨h1,h2,_⟩:=A3 h.one;unfold bfB;rw [decide_eq_true ((w5 _).2.2.mpr h1),decide_eq_true h2,AH,AH,zq37];exact fun s hs=>decide_eq_true (h.load s (zq36.mp hs))
def xl(K:W.Frag)(e f:Addr)(H:Hp)(Q:VK):Prop:=∃(ed:FZ.Ed)(fs:List Nat),H e=some (.tup (dG ed))/\SqL K H f (nl fs)/\(∀i∈ed.tg,i<fs.length)/\∀e' H',Same H H'->H' e'=some (.tup (dG (rm fs ed)))->Q (.ref e') H'
def zC(K:W.Frag):Sp:=fun vs H Q _=>∃e f:Addr,vs=[.ref e,.ref f]/\xl K e f H Q
def sZ(K:W.Frag)(a:Addr)(n:Str)(H:Hp)(Q:VK):Prop:=∃(xs:List V)(ds:List FB.Deed),SqL K H a xs/\Paired (DeedV1 K H) xs ds/\ds.length<=1000/\∀H',Same H H'->Q (.bl (wrB ds n)) H'
def uL(K:W.Frag):Sp:=fun vs H Q _=>∃(a:Addr)(n:Str),vs=[.ref a,.str n]/\sZ K a n H Q
section
variable {K:W.Frag} {te:TE} {ci:List Nat} {σ:L2.St} {acc:Addr} {Q:Hp->Prop} {H1:Hp} {a:Addr} {xs:List V}
theorem tm(fs:List V)(hz:xs.length<=sizeLine)(hlen:xs.length=fs.length)(hl:SqL K H1 a xs)(hacc:H1 acc=none)
  (hf:∀(i:Nat)x y,xs[i]?=some x->fs[i]?=some y->∀H Q',Same H1 H->(∀H',Same H H'->Q' y H')->te (aM [some x] ci σ) H Q')
  (q:∀H,Same H1 H->H acc=some (.lst fs)->Q H):ck (Itl K a) (c6 1) j1 te 1 ci σ acc Q (upd H1 acc (.lst [])):=by
 refine eC (fun i ys H=>ys=fs.take i/\Same H1 H/\H acc=some (.lst ys)) (zAB Jo (Same.upd hacc) aj) (fun i ys H _ h=>h.2.1.seq hl) ?_ ?_
 ·rintro i x ys H os hi ho ⟨rfl,sm,ha⟩;have hi':i<fs.length:=by have:=(zq10.mp hi).1;omega
  have e:(aM os ci σ).set 1 (some x)=aM [some x] ci σ:=by
   match os,ho with
   | [o],_=>rfl
  show (∃os',os'.length=1/\(aM os ci σ).set 1 (some x)=aM os' ci σ)/\j1 ((aM os ci σ).set 1 (some x)) H _;rw [e];refine ⟨zn ([some x]) rfl rfl,?_⟩;unfold j1;dsimp only;rw [if_pos rfl];exact hf i x fs[i] hi (zq8 hi') _ _ sm fun H3 s3=>zAJ (s3 _ _ ha) (by rw [dE];omega) (eN hi').symm ((sm.trans s3).updM hacc) aj
 ·rintro ys H ⟨rfl,sm,ha⟩;rw [hlen,eO] at ha;exact q H sm ha
end
theorem ui{e f:Addr}{H:Hp}{Q:VK}{E:XK}:zC K [.ref e,.ref f] H Q E=xl K e f H Q:=propext ⟨by rintro ⟨_,_,e,q⟩;cases e;exact q,fun q=>zAD _ _ rfl q⟩
theorem zj{a:Addr}{n:Str}{H:Hp}{Q:VK}{E:XK}:uL K [.ref a,.str n] H Q E=sZ K a n H Q:=propext ⟨by rintro ⟨_,_,e,q⟩;cases e;exact q,fun q=>zAD _ _ rfl q⟩
theorem mU{fs:List Nat}{i:Nat}(h:i<fs.length):(nl fs)[i]?=some (V.int (fs.getD i 0)):=by unfold nl;rw [cf,fN,zq8 h];rfl
theorem DJ(T:Txt K mg t):FnOk P w K mg base CX0 1 t.f_21 t.e_21 ["ending","places"] (zC K):=by
 refine T.d_21.F.ok HM ∅ ?_;rintro cdv A outer s H vs Q E hr ⟨e,f,rfl,ed,fs,he,hf,ht,q⟩;refine ⟨_,
   (XSs.h
   (ai
    (aG (av aR (am aw (yqv 0 vl) ae) aI (aA _))
     (ak
      (au (aP (aa aI (aa (am aS (yqv 1 vl) (am aw (yqv 0 vl) ae)) ac)))))
     aC)
   (ai
    (aG (av aR (am aw (yqv 0 vl) ae) aI (aA _))
     (ak
      (au (aP (aa aI (aa (am aw (yqv 0 vl) ae) (aa (am aS (yqv 1 vl) (am aw (yqv 0 vl) ae)) (aa (am aS (yqv 1 vl) (am aw (yqv 0 vl) ae)) ac)))))))
     aC)
   (ak
    (au (yqv 0 vl)))))),?_⟩
 rw [show aL _ [V.ref e,V.ref f]=[some (.ref e),some (.ref f)] from rfl];rwa []
 cases ed with
 |stop=>
  refine zAE _ _ (SqT.of he) rfl rfl (zn _ rfl ?_);rw [if_neg Jk];refine zAE _ _ (SqT.of he) rfl rfl (zn _ rfl ?_);rw [if_neg Jk];exact q e H (Same.refl H) he
 |go i=>
  refine zAE _ _ (SqT.of he) rfl rfl (zn _ rfl ?_);rw [if_pos Jk];exact zAA _ _ (SqT.of he) rfl (ixL hf (mU (ht i (by simp [FZ.Ed.tg]))) fun p hp=>q p _ (Same.upd hp) aj)
 |choose n i j=>refine zAE _ _ (SqT.of he) rfl rfl (zn _ rfl ?_);rw [if_neg Jk];refine zAE _ _ (SqT.of he) rfl rfl (zn _ rfl ?_);rw [if_pos Jk];exact zAA _ _ (SqT.of he) rfl (zAA _ _ (SqT.of he) rfl (ixL hf (mU (ht i (by simp [FZ.Ed.tg]))) (zAA _ _ (SqT.of he) rfl (ixL hf (mU (ht j (by simp [FZ.Ed.tg]))) fun p hp=>q p _ (Same.upd hp) aj))))
theorem Bz(T:Txt K mg t):FnOk P w K mg base CX0 2 t.f_39 t.e_39 ["deeds","name"] (uL K):=by
 have G_16:=@fB P w K mg base t T;refine T.d_39.F.ok HV ∅ ?_;rintro cdv A outer s H vs Q E hr ⟨a,n,rfl,xs,ds,ha,hd,hl,q⟩;refine ⟨_,
   (XSs.h
   (ak
    (au (aB (oq rfl) gl T.z_any boot_any (aa (bT (tns:=["deed"]) (cns:=["name"]) (ci:=[1]) rfl (CompSc.of Jl) (b9 (yqv 0 vl)) (fun _=>(aH (i:=1) (show List.Nodup [(".0":Str),("deed":Str),("name":Str)] by decide +kernel) rfl ll (Or.inr Jl))) (fun _=>cC) (fun _=>(aW aR (ap T.d_16 G_16 hr.m (aa (yqv 1 vl) ac) gl) (yqv 2 vc) (aA _)))) ac))))),?_⟩
 rw [show aL _ [V.ref a,V.str n]=[some (.ref a),some (.str n)] from rfl];rwa [d3];have lx:=hd.length;refine ⟨⟨_,ha⟩,fun acc hacc bk=>?_⟩;refine tm (ds.map fun d=>V.bl (decide (wrV d=.str n))) (by rw [sizeLine_eq];omega) (by rw [zq1];exact lx) ha hacc (fun i x y hx hy H2 Q' s2 h=>?_) fun H2 s2 e2=>?_
 ·obtain ⟨d,hd1,q0,rfl,hq0,hf⟩:=Paired.get hd hx;rw [cf,hd1] at hy
  cases hy
  rwa [d3];refine zAF d (s2.seqT hq0) hf ?_ (h H2 (Same.refl H2))
  cases d<;>rfl
 ·refine zn (ds.map fun d=>decide (wrV d=.str n)) (SqL.of (by rw [fM];exact e2)) ?_;rw [Ay];exact q H2 s2
def BtsV(K:W.Frag)(N:Addr->Prop)(H:Hp)(c:Addr)(bs:List (List FB.Deed)):Prop:=∃ps:List Addr,H c=some (.lst (ps.map V.ref))/\Paired (fun p (l:List FB.Deed)=>N p/\∃vs,H p=some (.lst vs)/\Paired (DeedV1 K H) vs l) ps bs
structure F4(K:W.Frag)(H:Hp)(q u:Addr)(b:FZ.Blk)(us:List Int):Prop where
 ex:∃a e vs,H q=some (.tup [.ref a,.ref e])/\H a=some (.lst vs)/\Paired (DeedV1 K H) vs b.ds/\H e=some (.tup (dG b.ed))
 h8:b.ds.length<=8
 ut:SqT K H u (us.map V.int)
 h3:us.length=3
 hp:∀x∈us,0<x/\x<=3
def nR(K:W.Frag)(q u:Addr)(H:Hp)(Q:VK):Prop:=∃(b:FZ.Blk)(us:List Int),F4 K H q u b us/\∀c bs H',Same H H'->H c=none->eP us b bs->BtsV K (fun p=>H p=none) H' c bs->Q (.ref c) H'
def pT(K:W.Frag):Sp:=fun vs H Q _=>∃q u:Addr,vs=[.ref q,.ref u]/\nR K q u H Q
theorem ud{q u:Addr}{H:Hp}{Q:VK}{E:XK}:pT K [.ref q,.ref u] H Q E=nR K q u H Q:=propext ⟨by rintro ⟨_,_,e,q⟩;cases e;exact q,fun q=>zAD _ _ rfl q⟩
theorem uh{a b:Addr}{H:Hp}{Q:VK}{E:XK}:q5 K [.ref a,.ref b] H Q E=∃(ds:List FB.Deed)(us:List Int),mt K H a b ds us/\∀c r bss H',Same H H'->LLN H' c bss->(List.range ds.length,bss)∈GD.cz (aQ ds) (soN ds) (uN us) ds.length r->(∀k,k<r->List.range ds.length∉(GD.cz (aQ ds) (soN ds) (uN us) ds.length k).map (·.1))->Q (.ref c) H':=propext ⟨by rintro ⟨_,_,ds,us,e,q⟩;cases e;exact zAM ds us q,fun ⟨ds,us,q⟩=>zAP _ _ ds us rfl q⟩
theorem nC{us:List Int}(h3:us.length=3)(hp:∀x∈us,0<x/\x<=3):∀s,s<3->0<uN us s:=fun s hs=>by unfold uN;rw [fN,zq8 Jn];exact (hp _ (lu _)).1
theorem oP{G:Nat->Nat->Option Int}{so:Nat->Nat}{U:Nat->Int}{bss:List (List Nat)}{dn:List Nat}(h:gM G so U bss dn):bss.length<=dn.length:=by
 have z:=h.perm.length_eq;have g:∀l:List (List Nat),(∀b∈l,b≠[])->l.length<=l.flatten.length:=fun l=>by
  induction l with
  |nil=>intro _;exact ce _
  |cons b l ih=>intro hl;have h1:=ih fun c hc=>hl c (zq9 _ hc);have h2:=zq74.mpr (hl b Jo);rw [AC,zq3,dk];omega
 have:=g bss h.ne;omega
theorem yb(T:Txt K mg t)(hw:t.pr=w.params):FnOk P w K mg base CX0 15 t.f_38 t.e_38 ["block","units"] (pT K):=by
 have G_23:=@yg P w K mg base t T hw;have G_39:=@Bz P w K mg base t T;refine T.d_38.F.ok sc_38 ∅ ?_;rintro cdv A outer s H vs Q E hr ⟨q,u,rfl,b,us,hB,qk⟩;have hu:=cT hr;refine ⟨_,
   (XSs.h
   (ai
    (ay (i:=2) sc_38.nd rfl lc (am aw (yqv 0 vl) ae))
   (ai
    (ay (i:=3) sc_38.nd rfl ll (am aw (yqv 0 vl) ae))
   (ai
    (d5 (i:=4) sc_38.nd rfl ll rfl Jl (tns:=["beat"]) (cns:=["deeds"]) (ci:=[2]) rfl (CompSc.of Jl) (b9 (ap T.d_23 G_23 hr.m (aa (yqv 2 vc) (aa (yqv 1 vl) ac)) gl)) (fun _=>(aH (i:=1) (show List.Nodup [(".0":Str),("beat":Str),("deeds":Str)] by decide +kernel) rfl ll (Or.inr Jl))) (fun _=>cC) (fun _=>(bT (tns:=["place"]) (cns:=["deeds"]) (ci:=[2]) rfl (CompSc.of Jl) (b9 (yqv 1 vl)) (fun _=>(aH (i:=1) (show List.Nodup [(".0":Str),("place":Str),("deeds":Str)] by decide +kernel) rfl ll (Or.inr Jl))) (fun _=>cC) (fun _=>(am aS (yqv 2 vc) (yqv 1 vl))))))
   (ai
    (aG (bP (bS (av (mV (n:=0) (vB Jm hr)) (yqv 4 vl) (aT ac) (aA _)) (cj (bP (dR (av aR (am aw (yqv 3 vl) ae) aI (aA _)) (df (aZ (ap T.d_39 G_39 hr.m (aa (am aS (yqv 4 vl) (j8 gI ae)) (aa (am aw (yqv 3 vl) ae) ac)) gl))))))))
     (ak
      (aY (c5 PySem.F.plainAttrs_list PySem.F.slot_list_append PySem.F.type_list_append ba (yqv 4 vl) (aa (aT ac) ac))))
     aC)
   (ak
    (au (yqv 4 vl)))))))),?_⟩
 rw [show aL _ [V.ref q,V.ref u]=[some (.ref q),some (.ref u),none,none,none] from rfl];simp_arith! [uh,zj];obtain ⟨a,e,vs,hq,ha,hvs,he⟩:=hB.ex;have hds:DeedsV K H vs b.ds:=FL.Paired.imp hvs fun x _ d _ ⟨q0,e1,z1,z2⟩=>⟨z2,zn q0 e1 z1⟩
 have lvs:=hvs.length;have h8:=hB.h8;refine zAA _ _ (SqT.of hq) rfl ?_;refine later ?_;simp_arith! [];refine zAA _ _ (SqT.of hq) rfl ?_;refine later ?_;simp_arith! [uh];refine zAD b.ds us ⟨vs,zAQ (SqL.of ha) hds h8 hB.ut hB.h3 hB.hp⟩ fun c r bss H1 s1 hL hmem hno=>?_;have hg:=mq (nC hB.h3 hB.hp) (fun j k l hl=>(Dp hl).2) r hno _ hmem;obtain ⟨ps,hc,hps⟩:=hL;have lps:=hps.length;have lb:bss.length<=b.ds.length:=by have z:=oP hg;rwa [gL] at z
 have lbd:(aO b.ds bss).length=bss.length:=by unfold aO;rw [zq1]
 refine ⟨⟨_,SqL.of hc⟩,fun acc hacc bk=>?_⟩;refine eC (xs:=ps.map V.ref) (fun i ys H'=>Same H1 H'/\H' acc=some (.lst ys)/\∃rs:List Addr,ys=rs.map V.ref/\Paired (fun p (l:List FB.Deed)=>H1 p=none/\p≠acc/\∃vs,H' p=some (.lst vs)/\Paired (DeedV1 K H') vs l) rs ((aO b.ds bss).take i)) (zAB (Same.upd hacc) aj (zn ([]) rfl .nil)) (fun i ys H' _ h=>SqL.of (h.1 _ _ hc)) ?_ ?_
 ·rintro i x ys H2 os hi ho ⟨s2,ha2,rs,rfl,hrs⟩;rw [cf] at hi;obtain ⟨p,hp,rfl⟩:=zq27.mp hi;obtain ⟨bt,hbt,hpb⟩:=Paired.get hps hp;obtain ⟨_,_,hlt⟩:=eU hg bt (zq4 hbt);have eb:(aM os [2] [some (V.ref q),some (V.ref u),some (V.ref a),some (V.ref e),none]).set 1 (some (V.ref p))=aM [some (V.ref p)] [2] [some (V.ref q),some (V.ref u),some (V.ref a),some (V.ref e),none]:=by
   match os,ho with
   | [o],_=>rfl
  show (∃os',os'.length=1/\(aM os [2] [some (V.ref q),some (V.ref u),some (V.ref a),some (V.ref e),none]).set 1 (some (V.ref p))=aM os' [2] _)/\j1 ((aM os [2] _).set 1 (some (V.ref p))) H2 _;rw [eb];refine ⟨zn ([some (V.ref p)]) rfl rfl,?_⟩;unfold j1;dsimp only;rw [if_pos rfl];rwa [];refine ⟨⟨_,SqL.of (s2 _ _ hpb)⟩,fun a2 ha2n bk2=>?_⟩;refine tm (bt.map fun p=>vs.getD p .non) (by rw [fA,sizeLine_eq];have:=eU hg bt (zq4 hbt);omega) (by rw [fA,zq1]) (SqL.of (s2 _ _ hpb)) ha2n (fun j x y hx hy H3 Q' s3 h=>?_) fun H3 s3 e3=>?_
  ·rw [cf] at hy;obtain ⟨pl,hpl,rfl⟩:=zq27.mp hy;rw [Fo hpl] at hx
   cases hx
   rwa [];have hpv:=hlt pl (zq4 hpl);refine zAA _ _ (SqL.of (s3 _ _ (s2 _ _ (s1 _ _ ha)))) (bo (j:=pl) (v:=vs.getD pl .non) (by rw [fN,zq8 Jn];rfl)) (h H3 (Same.refl H3))
  have na:a2≠acc:=ao ha2 ha2n |>.symm
  have s13:=s2.trans s3;have lr:=hrs.length;have e3a:=s3 _ _ ha2;have sf:Same H1 (upd H3 acc (.lst (List.map V.ref rs++[V.ref a2]))):=s13.updM hacc;have tf:TSame H3 (upd H3 acc (.lst (List.map V.ref rs++[V.ref a2]))):=TSame.updL e3a;rw [dE] at lr;refine zAJ e3a (by rw [zq1,sizeLine_eq];omega) sf aj (zn (rs++[a2]) (by rw [cS];rfl) ?_);have et:(aO b.ds bss).take (i+1)=(aO b.ds bss).take i++[bt.map (cg b.ds)]:=by
   have hb:(aO b.ds bss)[i]?=some (bt.map (cg b.ds)):=by unfold aO;rw [cf,hbt];rfl
   obtain ⟨h1,h2⟩:=zq10.mp hb;rw [eN h1,h2]
  rw [et];refine FL.Paired.snoc ⟨s2.free ha2n,na,_,by rw [aq na];exact e3,?_⟩ (FL.Paired.imp hrs fun r0 _ l _ ⟨z1,z2,vs2,z3,z4⟩=>zAB z1 z2 (zn vs2 (by rw [aq z2];exact s3 _ _ z3) (FL.Paired.imp z4 fun _ _ _ _ z=>z.ts (s3.ts.trans tf))));refine FL.Paired.of_get (by rw [zq1,zq1]) fun j x d hx hd=>?_;rw [cf] at hx hd;obtain ⟨pl,hpl,rfl⟩:=zq27.mp hx;rw [hpl] at hd
  cases hd
  have hpv:=hlt pl (zq4 hpl);obtain ⟨d,hd,hdv⟩:=Paired.get hvs (i:=pl) (a:=vs.getD pl .non) (by rw [fN,zq8 Jn];rfl);have ed:cg b.ds pl=d:=by unfold cg;rw [fN,hd];rfl
  rw [ed];exact hdv.ts ((s1.trans s13).ts.trans tf)
 ·rintro ys H2 ⟨s2,ha2,rs,rfl,hrs⟩;rw [zq1,lps,kP (by unfold aO;rw [zq1];exact zq0 _)] at hrs;have s02:=s1.trans s2;refine later ?_;simp_arith! [];have fin:∀H3,Same H2 H3->∀bs,eP us b bs->BtsV K (fun p=>H p=none) H3 acc bs->ja (zQ (gh 4)) {nx:=fun x H'=>Q V.non H',rt:=Q} [some (V.ref q),some (V.ref u),some (V.ref a),some (V.ref e),some (V.ref acc)] H3:=fun H3 s3 bs hl hv=>by refine later ?_;rwa [];exact qk acc bs H3 (s02.trans s3) (s1.free hacc) hl hv
  have hv2:∀H3,Same H2 H3->BtsV K (fun p=>H p=none) H3 acc (aO b.ds bss):=fun H3 s3=>zn rs (s3 _ _ ha2) (FL.Paired.imp hrs fun r0 _ l _ ⟨z1,z2,vs2,z3,z4⟩=>⟨s1.free z1,zn vs2 (s3 _ _ z3) (FL.Paired.imp z4 fun _ _ _ _ z=>z.ts s3.ts)⟩)
  have hF:∀z,((aO b.ds bss).isEmpty || ji (aO b.ds bss) b.ed)=z->cc b bss=if z=true then aO b.ds bss++[[]] else aO b.ds bss:=fun z hz=>by unfold cc;rw [hz]
  have lrs:=hrs.length;have stay:∀H3,Same H2 H3->((aO b.ds bss).isEmpty || ji (aO b.ds bss) b.ed)=false->ja (zQ (gh 4)) {nx:=fun x H'=>Q V.non H',rt:=Q} [some (V.ref q),some (V.ref u),some (V.ref a),some (V.ref e),some (V.ref acc)] H3:=fun H3 s3 hz=>fin H3 s3 _ (zn bss hg (hF _ hz).symm) (hv2 H3 s3);have grow:∀H3,Same H2 H3->((aO b.ds bss).isEmpty || ji (aO b.ds bss) b.ed)=true->tyV K "list" (V.ref acc) H3/\∀p,H3 p=none->∃xs,upd H3 p (.lst []) acc=some (.lst xs)/\xs.length<sizeLine/\
    ja (zQ (gh 4)) {nx:=fun x H'=>Q V.non H',rt:=Q} [some (V.ref q),some (V.ref u),some (V.ref a),some (V.ref e),some (V.ref acc)] (upd (upd H3 p (.lst [])) acc (.lst (xs++[V.ref p]))):=fun H3 s3 hz=>by
   have e3:=s3 _ _ ha2;refine ⟨.inl ⟨rfl,_,SqL.of e3⟩,fun p hp=>?_⟩;have np:p≠acc:=(ao e3 hp).symm;have t1:=Same.upd (o:=.lst []) hp;refine zAC _ (t1 _ _ e3) (by rw [zq1,sizeLine_eq];omega) ?_;have tf:TSame (upd H3 p (.lst [])) (upd (upd H3 p (.lst [])) acc (.lst (List.map V.ref rs++[V.ref p]))):=TSame.updL (t1 _ _ e3);refine later ?_;rwa [];refine qk acc (cc b bss) _ ((s02.trans (s3.trans t1)).updM (s1.free hacc)) (s1.free hacc) (zn bss hg rfl) ?_;rw [hF _ hz,if_pos rfl];refine zn (rs++[p]) (by rw [aj,cS];rfl) (FL.Paired.snoc ⟨s02.free (s3.free hp),[],by rw [aq np];exact aj,.nil⟩ (FL.Paired.imp hrs fun r0 _ l _ ⟨z1,z2,vs2,z3,z4⟩=>⟨s1.free z1,zn vs2 (by rw [aq z2];exact t1 _ _ (s3 _ _ z3)) (FL.Paired.imp z4 fun _ _ _ _ z=>z.ts ((s3.trans t1).ts.trans tf))⟩))
  intro p hp;have t1:=Same.upd (o:=.lst []) hp;refine zn _ (zr (t1 _ _ ha2) aj) (zn _ rfl (aF (fun hz=>?_) fun hz=>?_))
  ·rw [if_pos trivial];refine grow _ t1 ?_;have:aO b.ds bss=[]:=zq64.mp (by rw [<- lrs,<- zq1 (f:=V.ref),hz];rfl);rw [this];rfl
  have hbe:(aO b.ds bss).isEmpty=false:=by
   cases hbd:aO b.ds bss with
   |nil=>
    rw [hbd] at lrs;exact absurd (by rw [zq64.mp lrs];rfl) hz
   |cons _ _=>rfl
  rw [hbe,Bool.false_or] at grow stay;have he2:=t1 _ _ (s02 _ _ he)
  cases hed:b.ed with
  |stop=>
   rw [hed] at stay grow he2;refine zAE _ _ (SqT.of he2) rfl rfl (zn _ rfl ?_);rw [if_neg Jk];exact stay _ t1 rfl
  |go i=>
   rw [hed] at stay grow he2;refine zAE _ _ (SqT.of he2) rfl rfl (zn _ rfl ?_);rw [if_neg Jk];exact stay _ t1 rfl
  |choose n i j=>
   rw [hed] at stay grow he2;refine zAE _ _ (SqT.of he2) rfl rfl (zn _ rfl ?_);rw [if_pos Jk];rcases D8 rs with z | ⟨rl,pl,z⟩
   ·exact absurd (by rw [z];rfl) hz
   have hpl:rs[rl.length]?=some pl:=by rw [z,x5,j9 (zq0 _),nL];rfl
   obtain ⟨l,hl,_,_,vl,hvl,hdl⟩:=Paired.get hrs hpl;have el:eV (aO b.ds bss)=l:=by unfold eV;rw [AB,D9,<- lrs,z,x5,zq3,cG,Nat.add_sub_cancel,hl];rfl
   have hll:l.length<=8:=(cW (fun s hs=>AD (nC hB.h3 hB.hp s hs)) h8 (zn bss hg rfl)).2 l (by
    unfold cc
    split
    ·exact l8 _ (zq4 hl)
    ·exact zq4 hl) |>.2.1
   refine zAA _ (.ref pl) (SqL.of (t1 _ _ ha2)) (by rw [z,x5,cS];exact nQ _ _) (zAA _ _ (SqT.of he2) rfl ?_);rw [zj];refine zAE vl l (SqL.of (t1 _ _ hvl)) (FL.Paired.imp hdl fun _ _ _ _ z=>z.ts t1.ts) Jn fun H3 s3=>zn _ rfl ?_;have em:ji (aO b.ds bss) (.choose n i j)=wrB l n:=by rw [ji,el]
   rw [em] at grow stay;exact ip (fun h=>grow H3 (t1.trans s3) h) fun h=>stay H3 (t1.trans s3) h
variable {H:Hp}
theorem vn{xs:List V}:eJ xs none (some (-1))=xs.dropLast:=by
 unfold eJ;rw [HT.kB,uZ,x3,Da];have e:HT.sIx xs.length xs.length (some (-1))=xs.length-1:=by show (if (-1:Int)<0 then (-1+(xs.length:Int)).toNat else min (-1:Int).toNat xs.length)=_;rw [if_pos Jm];omega
 rw [e]
theorem B0{x:V}{os:List (Option V)}{ci:List Nat}{σ:L2.St}{Z Y:L2.St->Hp->Prop}(ho:os.length=1)(h:Z (aM [some x] ci σ) H):c6 1 x (aM os ci σ) H fun σ1 H1=>(∃os',os'.length=1/\σ1=aM os' ci σ)/\j1 σ1 H1 fun b H2=>if b=true then Z σ1 H2 else Y σ1 H2:=by
 have e:(aM os ci σ).set 1 (some x)=aM [some x] ci σ:=by
  match os,ho with
  | [o],_=>rfl
 show (∃os',os'.length=1/\(aM os ci σ).set 1 (some x)=aM os' ci σ)/\j1 ((aM os ci σ).set 1 (some x)) H _;rw [e];exact ⟨zn ([some x]) rfl rfl,by unfold j1;dsimp only;rw [if_pos rfl];exact h⟩
def oe(K:W.Frag)(C:Addr)(d:Nat)(p u:Addr)(H:Hp)(Q:VK):Prop:=∃(wd:Int)(ins oth:List Str)(ss:List Stm)(a b r:Addr)(ys:List V)(g:List Addr)(us:List Int)(ns:List Str),ProgAt K C H p wd ins oth ss a b r ys g/\cm ss<d/\3 * bq ss<300/\bC ns wd ss/\SqT K H u (us.map V.int)/\us.length=3/\(∀x∈us,0<x/\x<=3)/\
 ∀tb xs bbs H',Same H H'->H tb=none->H' tb=some (.lst xs)->Paired (eP us) (FZ.b7 ss) bbs->Paired (BlkV K (fun c=>H c=none) H' tb) xs (j2 (FZ.b7 ss) bbs)->Q (.ref tb) H'
def qj(K:W.Frag)(C:Addr)(d:Nat):Sp:=fun vs H Q _=>∃p u:Addr,vs=[.ref p,.ref u]/\oe K C d p u H Q
theorem C2{C p u:Addr}{d:Nat}{Q:VK}{E:XK}:qj K C d [.ref p,.ref u] H Q E=oe K C d p u H Q:=propext ⟨by rintro ⟨_,_,e,q⟩;cases e;exact q,fun q=>zAD _ _ rfl q⟩
theorem BtsV.mv{N N':Addr->Prop}{H':Hp}{c:Addr}{bs:List (List FB.Deed)}(h:BtsV K N H c bs)(s:Same H H')(hn:∀p,N p->N' p):BtsV K N' H' c bs:=
 let ⟨ps,e,r⟩:=h;(zn ps (s _ _ e) (FL.Paired.imp r fun p _ l _ ⟨z1,vs,z2,z3⟩=>⟨hn p z1,zn vs (s _ _ z2) (FL.Paired.imp z3 fun _ _ _ _ z=>z.ts s.ts)⟩))
theorem BtsV.updL{N:Addr->Prop}{c l:Addr}{bs:List (List FB.Deed)}{us vs:List V}(h:BtsV K N H c bs)(hl:H l=some (.lst us))(hc:c≠l)(hn:∀p,N p->p≠l):BtsV K N (upd H l (.lst vs)) c bs:=
 let ⟨ps,e,r⟩:=h;(zn ps (by rw [aq hc];exact e) (FL.Paired.imp r fun p _ l _ ⟨z1,vs,z2,z3⟩=>⟨z1,zn vs (by rw [aq (hn p z1)];exact z2) (FL.Paired.imp z3 fun _ _ _ _ z=>z.ts (TSame.updL hl))⟩))
theorem zS{N:Addr->Prop}{H:Hp}{tb q a e:Addr}{xs vs:List V}{T:List FZ.Blk}{l:List FB.Deed}{ed:FZ.Ed}(ht:H tb=some (.lst xs))(hx:Paired (BlkV K N H tb) xs T)(hq:H q=some (.tup [.ref a,.ref e]))(ha:H a=some (.lst vs))(hv:Paired (DeedV1 K H) vs l)(he:H e=some (.tup (dG ed)))(hn:a≠tb)(hN:N a):
  Paired (BlkV K N (upd H tb (.lst (xs++[.ref q]))) tb) (xs++[.ref q]) (T++[⟨l,ed⟩]):=
 FL.Paired.snoc (BlkV.sx (b:=⟨l,ed⟩) ⟨q,a,e,vs,rfl,hq,ha,hv,he,hn,hN⟩ SameX.upd ht) (FL.Paired.imp hx fun y _ c _ h=>h.sx SameX.upd ht)
theorem vL{F:Addr->List FB.Deed->Prop}{ps:List Addr}{bs:List (List FB.Deed)}(h:Paired F ps bs)(hn:bs≠[]):∃p,atI (ps.map V.ref) (-1)=some (.ref p)/\F p (eV bs):=by
 have lr:=h.length;rcases D8 ps with z | ⟨rl,pl,z⟩
 ·rw [z] at lr;exact absurd (zq64.mp lr.symm) hn
 have hpl:ps[rl.length]?=some pl:=by rw [z,x5,j9 (zq0 _),nL];rfl
 obtain ⟨l,hl,hf⟩:=Paired.get h hpl;have el:eV bs=l:=by unfold eV;rw [AB,D9,<- lr,z,x5,zq3,cG,Nat.add_sub_cancel,hl];rfl
 rw [el];exact zn pl (by rw [z,x5,cS];exact nQ _ _) hf
theorem oU{us:List Int}{b:FZ.Blk}{bs:List (List FB.Deed)}(h8:b.ds.length<=8)(h:eP us b bs):bs.length<=9:=by
 obtain ⟨bss,hg,rfl⟩:=h;have z:=oP hg;rw [gL] at z;have lbd:(aO b.ds bss).length=bss.length:=by unfold aO;rw [zq1]
 unfold cc
 split
 ·rw [zq3,cG];omega
 ·omega
theorem mj{bbs:List (List (List FB.Deed))}(h:∀bs∈bbs,bs.length<=9):fI bbs<=9 * bbs.length:=by
 induction bbs with
 |nil=>exact ce _
 |cons b l ih=>have h1:=ih fun c hc=>h c (zq9 _ hc);have h2:=h b Jo;unfold fI at h1 ⊢;rw [dh,List.sum_cons,dk];omega
theorem yp(T:Txt K mg t)(hw:t.pr=w.params)(d:Nat):FnOk P w K mg base CX0 (3 * d+16) t.f_37 t.e_37 ["program","units"] (qj K t.C_Program d):=by
 have G_0:=@vT P w K mg base t T d;have G_38:=@yb P w K mg base t T hw;have G_21:=@DJ P w K mg base t T;refine T.d_37.F.ok sc_37 ∅ ?_;rintro cdv A outer s H vs Q E hr ⟨p,u,rfl,wd,ins,oth,ss,a,b,r,ys,g,us,ns,hP,hd,hm,hgd,hU,h3,hp3,qk⟩;have hu:=cT hr;refine ⟨_,
   (XSs.h
   (ai
    (ay (i:=2) sc_37.nd rfl ll (ap T.d_0 G_0 hr.m (aa (yqv 0 vl) ac) gl))
   (ai
    (d5 (i:=4) sc_37.nd rfl ll rfl Jl (tns:=["block"]) (cns:=["units"]) (ci:=[1]) rfl (CompSc.of Jl) (b9 (yqv 2 vl)) (fun _=>(aH (i:=1) (show List.Nodup [(".0":Str),("block":Str),("units":Str)] by decide +kernel) rfl ll (Or.inr Jl))) (fun _=>cC) (fun _=>(ap T.d_38 G_38 hr.m (aa (yqv 1 vl) (aa (yqv 2 vc) ac)) gl)))
   (ai
    (ay (i:=5) sc_37.nd rfl ll (aT ac))
   (ai
    (ay (i:=6) sc_37.nd rfl ll ae)
   (bA
    (bu PassesOwn.never rfl (b9 (yqv 4 vl)) (aH (i:=7) sc_37.nd rfl ll)
     (ai
      (aY (c5 PySem.F.plainAttrs_list PySem.F.slot_list_append PySem.F.type_list_append ba (yqv 5 vl) (aa (yqv 6 vl) ac)))
     (ak
      (ay (i:=6) sc_37.nd rfl ll (ax bw (yqv 6 vl) (aB aD gl T.z_len PySem.boot_len (aa (yqv 7 vl) ac)))))))
   (ai
    (ay (i:=8) sc_37.nd rfl ll (aT ac))
   (ai
    (bu PassesOwn.never rfl (Co T.z_zip (aa (yqv 2 vl) (aa (yqv 4 vl) ac)) gl) (jD rfl (cN (aH (i:=3) sc_37.nd rfl ll) (cN (aH (i:=7) sc_37.nd rfl ll) iK)))
     (bA
      (bu PassesOwn.never rfl (b9 (bO dA (yqv 7 vl) cJ (bM (j8 gI ae)))) (aH (i:=9) sc_37.nd rfl ll)
       (ak
        (aY (c5 PySem.F.plainAttrs_list PySem.F.slot_list_append PySem.F.type_list_append ba (yqv 8 vl) (aa (aP (aa (yqv 9 vl) (aa (aP (aa aI (aa (ax bw (aB aD gl T.z_len PySem.boot_len (aa (yqv 8 vl) ac)) ae) ac))) ac))) ac)))))
     (ak
      (aY (c5 PySem.F.plainAttrs_list PySem.F.slot_list_append PySem.F.type_list_append ba (yqv 8 vl) (aa (aP (aa (am aS (yqv 7 vl) (j8 gI ae)) (aa (ap T.d_21 G_21 hr.m (aa (am aw (yqv 3 vl) ae) (aa (yqv 5 vl) ac)) gl) ac))) ac))))))
   (ak
    (au (yqv 8 vl))))))))))),?_⟩
 rw [show aL _ [V.ref p,V.ref u]=[some (.ref p),some (.ref u),none,none,none,none,none,none,none,none] from rfl];simp_arith! [yO];refine zBH wd ins oth ss a b r ys g (zAG hP hd Jn fun bl bs H1 s1 hbl0 hbl hbs=>?_);have hG:=FZ.jN hgd;have lB:=FZ.i8 ss;obtain ⟨B,hB⟩:∃B,B=FZ.b7 ss:=⟨_,rfl⟩
 rw [<- hB] at hG lB hbs qk;have lb:=hbs.length;refine later ?_;simp_arith! [ud];refine ⟨⟨_,SqL.of hbl⟩,fun acc hacc bk=>?_⟩;have up:=nC h3 hp3;refine eC (xs:=bs) (fun i ys H'=>Same H1 H'/\H' acc=some (.lst ys)/\∃(rs:List Addr)(bbs:List (List (List FB.Deed))),ys=rs.map V.ref/\Paired (eP us) (B.take i) bbs/\Paired (fun r bs=>H1 r=none/\r≠acc/\BtsV K (fun p=>H1 p=none/\p≠acc) H' r bs) rs bbs) (zAB (Same.upd hacc) aj (zAA ([]) ([]) rfl .nil .nil)) (fun i ys H' _ h=>SqL.of (h.1 _ _ hbl)) ?_ ?_
 ·rintro i x ys H2 os hi ho ⟨s2,ha2,rs,bbs,rfl,hL,hR⟩;obtain ⟨b0,hb0,hbv⟩:=Paired.get hbs hi;have hb8:=(hG b0 (zq4 hb0)).len;obtain ⟨qb,ab,eb,vs,rfl,v1,v2,v3,v4,v5,v6⟩:=hbv.same s2;refine B0 ho ?_;rwa [ud];refine zAD b0 us ⟨zAH ab eb vs v1 v2 v3 v4,hb8,(s1.trans s2).seqT hU,h3,hp3⟩ fun c bs0 H3 s3 hc hl hv=>?_;have e3:=s3 _ _ ha2;have nc:c≠acc:=(ao ha2 hc).symm;have lr:=hR.length;have lL:=hL.length;rw [dE] at lL;refine zAJ e3 (by rw [zq1,sizeLine_eq];omega) ((s2.trans s3).updM hacc) aj (zAA (rs++[c]) (bbs++[bs0]) (by rw [cS];rfl) ?_ ?_)
  ·obtain ⟨h1,h2⟩:=zq10.mp hb0;rw [eN h1,h2];exact FL.Paired.snoc hl hL
  ·refine FL.Paired.snoc ⟨s2.free hc,nc,?_⟩ (FL.Paired.imp hR fun r0 _ l _ ⟨z1,z2,z3⟩=>zAB z1 z2 ((z3.mv s3 fun _ z=>z).updL e3 z2 fun _ z=>z.2));exact (hv.mv (Same.refl _) fun p0 z=>⟨s2.free z,(ao ha2 z).symm⟩).updL e3 nc fun _ z=>z.2
 ·rintro ys H2 ⟨s2,ha2,rs,bbs,rfl,hL,hR⟩;rw [kP Jn] at hL;have lr:=hR.length;have lL:=hL.length;have hne:∀bs∈bbs,bs≠[]/\bs.length<=9:=fun bs hbs=>by obtain ⟨i,hi⟩:=zq66.mp hbs;obtain ⟨b0,hb0,hl⟩:=Paired.getR hL hi;have h8:=(hG b0 (zq4 hb0)).len;exact ⟨(cW (fun s hs=>AD (up s hs)) h8 hl).1,oU h8 hl⟩
  have hR2:Paired (fun r bs=>H1 r=none/\BtsV K (fun p=>H1 p=none) H2 r bs) rs bbs:=FL.Paired.imp hR fun r0 _ l _ ⟨z1,_,z3⟩=>⟨z1,z3.mv (Same.refl _) fun _ z=>z.1⟩
  have hsum:=mj fun bs hbs=>(hne bs hbs).2;have hacc0:=hacc;clear hR hacc bk;refine later ?_;simp_arith! [];intro fl hfl;refine later ?_;simp_arith! [];refine later ?_;simp_arith! [];have t1:=Same.upd (o:=.lst []) hfl;refine ⟨fun σ H'=>Same H2 H'/\H' fl=some (.lst (nl (bJ bbs)))/\∃o6 o7,σ=[some (V.ref p),some (V.ref u),some (V.ref bl),none,some (V.ref acc),some (V.ref fl),o6,o7,none,none],?_,?_⟩
  ·refine ⟨⟨_,SqL.of (t1 _ _ ha2)⟩,?_⟩;refine cA (xs:=rs.map V.ref) (fun i σ H'=>Same H2 H'/\H' fl=some (.lst (nl ((bJ bbs).take i)))/\∃o7,σ=[some (V.ref p),some (V.ref u),some (V.ref bl),none,some (V.ref acc),some (V.ref fl),some (V.int (fI (bbs.take i))),o7,none,none])
    (zAB t1 aj ⟨_,rfl⟩) (fun i σ H' _ h=>SqL.of (h.1 _ _ ha2)) ?_ ?_
   ·rintro i x σ H3 hx ⟨s3,e3,o7,rfl⟩;rw [cf] at hx;obtain ⟨r0,hr0,rfl⟩:=zq27.mp hx;obtain ⟨bs0,hbs0,z1,ps,hps,hpp⟩:=Paired.get hR2 hr0;have hi:=(zq10.mp hbs0).1;have lp:=hpp.length;have lf:(bJ bbs).length=bbs.length:=by unfold bJ;rw [zq1,gL]
    have ltk:=fA (ps:=(bJ bbs).take i);rw [dE] at ltk;rwa [];have nr:r0≠fl:=ao hps hfl;refine ⟨.inl ⟨rfl,_,SqL.of e3⟩,zAC _ e3 (by rw [ltk,sizeLine_eq];omega) (zAF (ps.map V.ref) (.inl (SqL.of (by rw [aq nr];exact s3 _ _ hps))) (s3.updM hfl) ?_ ⟨some (V.ref r0),?_⟩)⟩
    ·have hf:(bJ bbs)[i]?=some (fI (bbs.take i)):=by unfold bJ;rw [cf,AA hi];rfl
     obtain ⟨h1,h2⟩:=zq10.mp hf;rw [aj,eN h1,h2];unfold nl;rw [cS];rfl
    ·rw [fh hbs0,zq1,lp,Int.natCast_add]
   ·rintro σ H3 ⟨s3,e3,o7,rfl⟩;rw [zq1,lr,kP (by unfold bJ;rw [zq1,gL];exact zq0 _)] at e3;exact zAB s3 e3 (zAM _ _ rfl)
  rintro σ H3 ⟨s3,e3,o6,o7,rfl⟩;refine later ?_;simp_arith! [];intro tb htb;refine later ?_;simp_arith! [ui];have t4:=Same.upd (o:=.lst []) htb;have hS3:=s2.trans s3;have lB1:B.length=bbs.length:=lL;refine zAE bl acc rfl ⟨_,SqL.of (t4 _ _ (hS3 _ _ hbl))⟩ ⟨_,SqL.of (t4 _ _ (s3 _ _ ha2))⟩ ?_;refine Dn (xs:=bs) (ys:=rs.map V.ref) (by rw [zq1];omega) (fun i σ H'=>Same H3 H'/\(∃xs,H' tb=some (.lst xs)/\Paired (BlkV K (fun c=>H c=none) H' tb) xs (gK B bbs i))/\∃o3 o7 o9,σ=[some (V.ref p),some (V.ref u),some (V.ref bl),o3,some (V.ref acc),some (V.ref fl),o6,o7,some (V.ref tb),o9])
   (zAB t4 (zn ([]) aj .nil) (zAK _ _ _ rfl)) (fun i σ H' _ h=>⟨SqL.of (h.1 _ _ (hS3 _ _ hbl)),SqL.of (h.1 _ _ (s3 _ _ ha2))⟩) ?_ ?_
  ·rintro i x y σ H5 pp hx hy hpp ⟨s5,⟨xs,e5,hxs⟩,o3,o7,o9,rfl⟩;rw [cf] at hy;obtain ⟨r0,hr0,rfl⟩:=zq27.mp hy;obtain ⟨bs0,hbs0,z1,ps,hps,hpp0⟩:=Paired.get hR2 hr0;obtain ⟨b0,hb0,hbv⟩:=Paired.get hbs hx;obtain ⟨qb,ab,eb,vs,rfl,v1,v2,v3,v4,v5,v6⟩:=hbv.same hS3;have lp:=hpp0.length;have hn0:=(hne bs0 (zq4 hbs0)).1;have hlen:=gc lB1 (fun bs hbs=>(hne bs hbs).1) i (by have:=(zq10.mp hbs0).1;omega);have hsle:=nA (bbs:=bbs) (i+1);rw [fh hbs0] at hsle;simp_arith! [];refine zAC _ (SqT.of aj) rfl ?_;have t6:=Same.upd (o:=.tup [.ref qb,.ref r0]) hpp;have s6:=s5.trans t6;have e6:=t6 _ _ e5;have hx6:=FL.Paired.imp hxs fun y _ c _ h=>h.same t6;clear hxs hpp e5;generalize upd H5 pp (.tup [.ref qb,.ref r0])=H6 at t6 s6 e6 hx6 ⊢;simp_arith! [ui];refine ⟨fun σ H'=>Same H3 H'/\(∃xs,H' tb=some (.lst xs)/\Paired (BlkV K (fun c=>H c=none) H' tb) xs (gK B bbs i++bs0.dropLast.mapIdx fun j d=>⟨d,.go ((gK B bbs i).length+j+1)⟩))/\∃o9,σ=[some (V.ref p),some (V.ref u),some (V.ref bl),some (V.ref qb),some (V.ref acc),some (V.ref fl),o6,some (V.ref r0),some (V.ref tb),o9],?_,?_⟩
   ·refine zn _ (SqL.of (s6 _ _ (s3 _ _ hps))) fun sl hsl=>?_;rw [vn];have t7:=Same.upd (o:=.lst (ps.map V.ref).dropLast) hsl;have s7:=s6.trans t7;have e7:=t7 _ _ e6;have esl:upd H6 sl (.lst (ps.map V.ref).dropLast) sl=some (.lst (ps.map V.ref).dropLast):=aj;have hx7:=FL.Paired.imp hx6 fun y _ c _ h=>h.same t7;have nsl:sl≠tb:=(ao e6 hsl).symm;generalize upd H6 sl (.lst (ps.map V.ref).dropLast)=H7 at t7 s7 e7 esl hx7 ⊢;refine ⟨⟨_,SqL.of esl⟩,?_⟩;refine cA (xs:=(ps.map V.ref).dropLast) (fun j σ H'=>SameX tb H7 H'/\(∃xs,H' tb=some (.lst xs)/\Paired (BlkV K (fun c=>H c=none) H' tb) xs (gK B bbs i++(bs0.dropLast.take j).mapIdx fun j d=>⟨d,.go ((gK B bbs i).length+j+1)⟩))/\∃o9,σ=[some (V.ref p),some (V.ref u),some (V.ref bl),some (V.ref qb),some (V.ref acc),some (V.ref fl),o6,some (V.ref r0),some (V.ref tb),o9])
     (zAB SameX.refl (zn _ e7 (by simpa using hx7)) ⟨_,rfl⟩) (fun j σ H' _ h=>SqL.of (h.1 _ _ esl nsl)) ?_ ?_
    ·rintro j x σ H8 hxj ⟨sx8,⟨xs8,e8,hx8⟩,o9',rfl⟩;rwa [];have hjl:j<ps.length-1:=by have:=(zq10.mp hxj).1;rwa [kN,zq1] at this
     obtain ⟨pj,hpj⟩:∃pj,ps[j]?=some pj:=⟨_,zq8 Jn⟩
     rw [AE,if_pos (by rw [zq1];exact hjl),cf,hpj] at hxj
     cases hxj
     obtain ⟨l,hl,hN,vl,hvl,hdl⟩:=Paired.get hpp0 hpj;have hld:bs0.dropLast[j]?=some l:=by rw [AE,if_pos Jn];exact hl
     have lx8:=hx8.length;rw [zq3,x4,dE,kN] at lx8;have s38:Same H3 H8:=fun c o e=>sx8 c o (s7 c o e) (ao e htb);refine ⟨.inl ⟨rfl,_,SqL.of e8⟩,zn _ (.inl (SqL.of e8)) fun p1 hp1 p2 hp2=>?_⟩;have t9:=Same.upd (o:=.tup [V.str (Str.ofString "go"),V.int ((xs8.length:Int)+1)]) hp1;have t10:=Same.upd (o:=.tup [V.ref pj,V.ref p1]) hp2;have s10:=t9.trans t10;have e1:=t10 _ _ (aj (H:=H8) (a:=p1) (o:=.tup [V.str (Str.ofString "go"),V.int ((xs8.length:Int)+1)]));have s310:=s38.trans s10;refine zBA xs8 (s10 _ _ e8) (by rw [sizeLine_eq];omega) ((sx8.trans (SameX.of s10)).trans SameX.upd) (zn _ aj ?_) ⟨_,rfl⟩;rw [qD hld,<- lz];refine zS (s10 _ _ e8) (FL.Paired.imp hx8 fun y _ c _ h=>h.same s10) aj (s310 _ _ (s3 _ _ hvl)) (FL.Paired.imp hdl fun _ _ _ _ z=>z.ts (s3.trans s310).ts) (e:=p1) ?_ (ao (s3 _ _ hvl) htb) (s1.free hN);rw [e1,lx8,sE Jn];rfl
    ·rintro σ H8 ⟨sx8,⟨xs8,e8,hx8⟩,o9',rfl⟩;refine zAB (fun c o e=>sx8 c o (s7 c o e) (ao e htb)) (zn xs8 e8 ?_) ⟨_,rfl⟩;rw [kP (by rw [kN,kN,zq1];omega)] at hx8;exact hx8
   ·rintro σ H8 ⟨s8,⟨xs8,e8,hx8⟩,o9',rfl⟩;refine later ?_;rwa [ui];obtain ⟨pl,hat,hN,vl,hvl,hdl⟩:=vL hpp0 hn0;have lx8:=hx8.length;rw [zq3,x4,kN] at lx8;have lb0:=zq74.mpr hn0;refine ⟨.inl ⟨rfl,_,SqL.of e8⟩,zAA _ _ (SqL.of (s8 _ _ (s3 _ _ hps))) hat (zAA _ _ (SqT.of (s8 _ _ v1)) rfl ?_)⟩;rw [ui];refine zAE b0.ed (bJ bbs) (s8 _ _ v4) (SqL.of (s8 _ _ e3)) (fun k hk=>?_) fun e' H9 s9 he' p1 hp1=>?_
    ·have:=(hG b0 (zq4 hb0)).tg k hk;unfold bJ;rw [zq1,gL];omega
    have t10:=Same.upd (o:=.tup [.ref pl,.ref e']) hp1;have s10:=s9.trans t10;have s310:=s8.trans s10;refine zBA xs8 (s10 _ _ e8) (by rw [sizeLine_eq];omega) (s310.updM htb) (zn _ aj ?_) (zAK _ _ _ rfl);rw [dU hb0 hbs0,mz,g8,<- lz];exact zS (s10 _ _ e8) (FL.Paired.imp hx8 fun y _ c _ h=>h.same s10) aj (s310 _ _ (s3 _ _ hvl)) (FL.Paired.imp hdl fun _ _ _ _ z=>z.ts (s3.trans s310).ts) (t10 _ _ he') (ao (s3 _ _ hvl) htb) (s1.free hN)
  ·rintro σ H5 ⟨s5,⟨xs,e5,hxs⟩,o3,o7,o9,rfl⟩;refine later ?_;rwa [];rw [lb,g9 lB1] at hxs;exact qk tb xs bbs H5 ((s1.trans hS3).trans s5) ((s1.trans hS3).free htb) e5 hL hxs
variable {b b':Bx} {d:Deed} {i j p:Nat}
theorem lM{m n:Str}{x:Int}:aJ (cv b (.inr m) (.int x)) n=if n=m then x else aJ b n:=by
 unfold aJ;rw [FG.gf]
 split<;>rfl
theorem iP{w:Int}{b0:Bx}{n:Str}:aJ (GO.atB w d b0 b) n=if n∈d.writes then cY b0 w d else aJ b n:=by
 cases d with
 |tell a=>rw [if_neg (by intro z;cases z)];rfl
 |copy m a=>
  show aJ (cv b (.inr m) _) n=_;rw [lM]
  by_cases h:n=m
  ·rw [if_pos h,if_pos (by rw [h];exact zq2.mpr rfl)]
  ·rw [if_neg h];exact (if_neg (show n∉[m] from fun z=>h (zq2.mp z))).symm
 |op f m x y=>
  show aJ (cv b (.inr m) _) n=_;rw [lM]
  by_cases h:n=m
  ·rw [if_pos h,if_pos (by rw [h];exact zq2.mpr rfl)]
  ·rw [if_neg h];exact (if_neg (show n∉[m] from fun z=>h (zq2.mp z))).symm
theorem xf{w:Int}:GO.atB w d b b=doB w d b:=by cases d<;>rfl
theorem fD{o:Opd}(h:∀n∈o.reads,aJ b n=aJ b' n):eK b o=eK b' o:=by
 cases o with
 |box n=>exact h n (zq2.mpr rfl)
 |word i=>rfl
theorem oC{w:Int}(h:∀n∈d.reads,aJ b n=aJ b' n):cY b w d=cY b' w d:=by
 cases d with
 |tell a=>exact fD h
 |copy m a=>exact fD h
 |op f m x y=>show ky f (eK b x) (eK b y) w=ky f (eK b' x) (eK b' y) w;rw [fD (o:=x) fun n hn=>h n (l8 _ hn),fD (o:=y) fun n hn=>h n (eM _ hn)]
theorem xw{w:Int}{t:List Int}:doT w d b t=t++if d.tells=true then [cY b w d] else []:=by
 cases d with
 |tell a=>rfl
 |copy m a=>exact (iL _).symm
 |op f m x y=>exact (iL _).symm
def vAt(w:Int)(ds:List Deed)(s:GA.BT)(p:Nat):Int:=cY (GA.dos w (ds.take p) s).1 w (cg ds p)
def eX(ds:List Deed)(v:Nat->Int)(b:Bx)(S:Nat->Bool)(n:Str):Nat->Int
 |0=>aJ b n
 |k+1=>if S k=true/\n∈(cg ds k).writes then v k else eX ds v b S n k
theorem ij{ds:List Deed}(h:p<ds.length):ds[p]?=some (cg ds p):=by unfold cg;rw [fN,zq8 h];rfl
theorem rQ{w:Int}{ds:List Deed}{s:GA.BT}{n:Str}:∀p,p<=ds.length->aJ (GA.dos w (ds.take p) s).1 n=eX ds (vAt w ds s) s.1 (fun _=>true) n p
 |0,_=>rfl
 |p+1,hp=>by
  rw [GA.jV (ij Jn),eX,<- xf];dsimp only;rw [iP,rQ p Jn]
  by_cases h:n∈(cg ds p).writes
  ·rw [if_pos h,if_pos ⟨rfl,h⟩];rfl
  ·rw [if_neg h,if_neg (fun z=>h z.2)]
theorem pQ{w:Int}{ds:List Deed}{s:GA.BT}:∀p,p<=ds.length->(GA.dos w (ds.take p) s).2=s.2++((List.range p).filter fun q=>(cg ds q).tells).map (vAt w ds s)
 |0,_=>by
  show s.2=_;simp
 |p+1,hp=>by
  rw [GA.jV (ij Jn)];dsimp only;rw [xw,pQ p Jn,Ap,Cy,cS,<- lz];congr 1;rw [List.filter_cons]
  split<;>rfl
theorem gz{ds:List Deed}{v:Nat->Int}{b:Bx}{S:Nat->Bool}{n:Str}{p:Nat}:∀N,p<=N->(∀k,p<=k->k<N->¬(S k=true/\n∈(cg ds k).writes))->eX ds v b S n N=eX ds v b S n p
 |0,h,_=>by
  obtain rfl:p=0:=by omega
  rfl
 |N+1,h,hk=>by
  by_cases e:p=N+1
  ·rw [e]
  ·rw [eX,if_neg (hk N Jn Jn)];exact gz N Jn fun k h1 h2=>hk k h1 Jn
theorem dC{ds:List Deed}{v:Nat->Int}{b:Bx}{S S':Nat->Bool}{n:Str}:∀N,(∀k,k<N->n∈(cg ds k).writes->S k=S' k)->eX ds v b S n N=eX ds v b S' n N
 |0,_=>rfl
 |N+1,h=>by
  rw [eX,eX,dC N fun k hk=>h k Jn]
  by_cases e:n∈(cg ds N).writes
  ·rw [h N Jn e]
  ·rw [if_neg (fun z=>e z.2),if_neg (fun z=>e z.2)]
theorem vK{ds:List Deed}{v:Nat->Int}{S:Nat->Bool}{n:Str}{N:Nat}(hp:p<N)(hS:S p=true)(hw:n∈(cg ds p).writes)(h:∀k,p<k->k<N->¬(S k=true/\n∈(cg ds k).writes)):eX ds v b S n N=v p:=by rw [gz (p:=p+1) N Jn fun k h1 h2=>h k Jn h2,eX,if_pos ⟨hS,hw⟩]
theorem i7{w:Int}{b0:Bx}{n:Str}:∀{l:List Deed} {s:GA.BT},(∀d∈l,n∉d.writes)->aJ (GO.beat w b0 l s).1 n=aJ s.1 n
 | [],s,_=>rfl
 |d::r,s,h=>by rw [GO.beat,i7 fun e he=>h e (zq9 _ he)];dsimp only;rw [iP,if_neg (h d (eL ..))]
theorem oh{w:Int}{b0:Bx}{n:Str}{d:Deed}(hw:n∈d.writes):∀{l:List Deed} {s:GA.BT},d∈l->(l.Pairwise fun d e=>∀n∈d.writes,n∉e.writes)->aJ (GO.beat w b0 l s).1 n=cY b0 w d
 | [],s,h,_=>by cases h
 |c::r,s,h,hp=>by
  rw [zq79] at hp;rw [GO.beat];rcases zq5.mp h with e | e
  ·subst e;rw [i7 fun e he=>hp.1 e he n hw];dsimp only;rw [iP,if_pos hw]
  ·exact oh hw e hp.2
theorem iN{w:Int}{b0:Bx}:∀{l:List Deed} {s:GA.BT},(GO.beat w b0 l s).2=s.2++(l.filter Deed.tells).map (cY b0 w)
 | [],s=>by show s.2=_;simp
 |d::r,s=>by
  rw [GO.beat,iN];dsimp only;rw [xw,List.filter_cons,lz];congr 1
  split<;>rfl
def bts(w:Int):List (List Deed)->GA.BT->GA.BT
 | [],s=>s
 |l::r,s=>bts w r (GO.beat w s.1 l s)
theorem i9{w:Int}:∀{l m:List (List Deed)} {s:GA.BT},bts w (l++m) s=bts w m (bts w l s)
 | [],m,s=>rfl
 |x::l,m,s=>by rw [qN,bts,bts,i9]
theorem oo{w:Int}{l:List (List Deed)}{x:List Deed}{s:GA.BT}(h:l[i]?=some x):bts w (l.take (i+1)) s=GO.beat w (bts w (l.take i) s).1 x (bts w (l.take i) s):=by obtain ⟨hi,e⟩:=zq10.mp h;rw [eN hi,e,i9];rfl
theorem mem_takeF{bss:List (List Nat)}{q:Nat}:q∈(bss.take i).flatten↔∃(i':Nat)(b:List Nat),i'<i/\bss[i']?=some b/\q∈b:=by
 rw [zq80]
 constructor
 ·rintro ⟨b,hb,hq⟩;obtain ⟨k,hk⟩:=zq66.mp hb;rw [List.getElem?_take] at hk
  split at hk
  ·next h=>exact zAA k b h hk hq
  ·cases hk
 ·rintro ⟨i',b,h1,h2,h3⟩;exact zn b (zq66.mpr ⟨i',by rw [List.getElem?_take,if_pos h1];exact h2⟩) h3
theorem mJ{ds:List Deed}{k:Nat}(hj:j<ds.length)(hk:k<ds.length):aQ ds j k=FB.jm (cg ds j) (cg ds k):=by unfold aQ;rw [ij hj,ij hk]
section
variable {w:Int} {ds:List Deed} {us:List Int} {bss:List (List Nat)}
theorem mQ(h:gM (aQ ds) (soN ds) (uN us) bss (List.range ds.length)){i2:Nat}{b b2:List Nat}{k:Nat}(hb:bss[i]?=some b)(hp:p∈b)(hb2:bss[i2]?=some b2)(hk:k∈b2)(lt:p<k){l:Int}(hg:aQ ds p k=some l):(i:Int)+l<=i2:=by have nd:bss.flatten.Nodup:=h.perm.nodup_iff.mpr AN;obtain ⟨i',b',h1,h2,h3⟩:=h.lean i2 b2 k hb2 hk p lt l hg;have:=fT nd hb h1 hp h2;subst this;exact h3
theorem xF{ds:List Deed}{k:Nat}{n:Str}(hj:j<ds.length)(hk:k<ds.length)(h1:n∈(cg ds j).writes)(h2:n∈(cg ds k).reads\/n∈(cg ds k).writes):aQ ds j k=some 1:=by
 rw [mJ hj hk,FB.jm]
 split
 ·rfl
 ·rw [if_pos ⟨n,h1,h2⟩]
theorem Dr{ds:List Deed}{k:Nat}{n:Str}(hj:j<ds.length)(hk:k<ds.length)(h1:n∈(cg ds j).reads)(h2:n∈(cg ds k).writes):∃l:Int,aQ ds j k=some l/\0<=l:=by
 rw [mJ hj hk,FB.jm]
 split
 ·exact zn 1 rfl Jm
 ·split
  ·exact zn 1 rfl Jm
  ·rw [if_pos ⟨n,h2,h1⟩];exact zn 0 rfl Jm
theorem Ds{ds:List Deed}{k:Nat}(hj:j<ds.length)(hk:k<ds.length)(h1:(cg ds j).tells=true)(h2:(cg ds k).tells=true):aQ ds j k=some 1:=by rw [mJ hj hk,FB.jm,if_pos ⟨h1,h2⟩]
structure LayI(w:Int)(ds:List Deed)(bss:List (List Nat))(s:GA.BT)(i:Nat)(st:GA.BT):Prop where
 bx:∀n,aJ st.1 n=eX ds (vAt w ds s) s.1 (fun q=>decide (q∈(bss.take i).flatten)) n ds.length
 td:st.2=s.2++((List.range ds.length).filter fun q=>decide (q∈(bss.take i).flatten)&&(cg ds q).tells).map (vAt w ds s)
theorem LayI.step{s st:GA.BT}{b:List Nat}(h:gM (aQ ds) (soN ds) (uN us) bss (List.range ds.length))(hi:LayI w ds bss s i st)(hb:bss[i]?=some b):LayI w ds bss s (i+1) (GO.beat w st.1 (b.map (cg ds)) st):=by
 have nd:bss.flatten.Nodup:=h.perm.nodup_iff.mpr AN;have ltN:∀{k:Nat} {c:List Nat} {q:Nat},bss[k]?=some c->q∈c->q<ds.length:=fun hc hq=>zq36.mp (h.perm.mem_iff.mp (zq80.mpr (zn _ (zq4 hc) hq)));have hm:=zq4 hb;obtain ⟨hbt,_,_⟩:=eU h b hm;have hpw:(b.map (cg ds)).Pairwise fun d e=>∀n∈d.writes,n∉e.writes:=hbt.one.imp fun z=>z.2;have hv:∀p∈b,cY st.1 w (cg ds p)=vAt w ds s p:=fun p hp=>by
  have hpN:=ltN hb hp;refine oC fun n hn=>?_;rw [hi.bx,rQ p Jn,gz (p:=p) _ Jn]
  ·refine dC _ fun k hk hwk=>?_;have g:=xF Jn hpN hwk (.inl hn);obtain ⟨i',b',h1,h2,h3⟩:=h.lean i b p hb hp k hk 1 g;exact decide_eq_true (mem_takeF.mpr (zAA i' b' Jn h1 h2))
  ·rintro k hk1 hk2 ⟨hS,hwk⟩;obtain ⟨i',b',h1,h2,h3⟩:=mem_takeF.mp (of_decide_eq_true hS)
   by_cases e:k=p
   ·subst e;have:=fT nd hb h2 hp h3;omega
   ·obtain ⟨l,g,hl⟩:=Dr hpN (ltN h2 h3) hn hwk;have:=mQ h hb hp h2 h3 Jn g;omega
 have mS:∀q,q∈(bss.take (i+1)).flatten↔q∈(bss.take i).flatten\/q∈b:=fun q=>by obtain ⟨hlt,e⟩:=zq10.mp hb;rw [eN hlt,e,List.flatten_append,zq15];simp
 refine ⟨fun n=>?_,?_⟩
 ·by_cases hx:∃p∈b,n∈(cg ds p).writes
  ·obtain ⟨p,hp,hw⟩:=hx;rw [oh hw (zq21.mpr ⟨p,hp,rfl⟩) hpw,hv p hp,vK (ltN hb hp) (decide_eq_true ((mS p).mpr (.inr hp))) hw];rintro k hk1 hk2 ⟨hS,hwk⟩;obtain ⟨i',b',h1,h2,h3⟩:=mem_takeF.mp (of_decide_eq_true hS);have:=mQ h hb hp h2 h3 hk1 (xF (ltN hb hp) (ltN h2 h3) hw (.inr hwk));omega
  ·rw [i7,hi.bx]
   ·refine dC _ fun k hk hwk=>?_;have nb:k∉b:=fun z=>hx (zn k z hwk);have:(k∈(bss.take (i+1)).flatten)=(k∈(bss.take i).flatten):=propext ⟨fun z=>((mS k).mp z).resolve_right nb,fun z=>(mS k).mpr (.inl z)⟩;rw [decide_eq_decide,this]
   ·intro d hd;obtain ⟨p,hp,rfl⟩:=zq21.mp hd;exact fun z=>hx (zn p hp z)
 ·rw [iN,hi.td,lz];congr 1;have e1:((b.map (cg ds)).filter Deed.tells).map (cY st.1 w)=(b.filter fun q=>(cg ds q).tells).map (vAt w ds s):=by rw [List.filter_map,fM];refine v7 fun p hp=>hv p (zq39.mp hp).1
  rw [e1,<- cS];congr 1;refine List.Perm.eq_of_pairwise (le:=(·<=·)) (fun a c _ _ h1 h2=>Nat.le_antisymm h1 h2) ?_ ?_ ?_
  ·rw [List.pairwise_append];refine zAB (List.Pairwise.filter _ (zq90.imp nK)) (List.Pairwise.filter _ ((h.srt b hm).imp nK)) fun q hq p hp=>?_;rw [zq39,dF] at hq;rw [zq39] at hp;obtain ⟨i',b',h1,h2,h3⟩:=mem_takeF.mp (of_decide_eq_true hq.2.1);rcases Nat.lt_or_ge p q with z | z
   ·have:=mQ h hb hp.1 h2 h3 z (Ds (ltN hb hp.1) (ltN h2 h3) hp.2 hq.2.2);omega
   ·exact z
  ·exact List.Pairwise.filter _ (zq90.imp nK)
  ·have n1:((List.range ds.length).filter fun q=>decide (q∈(bss.take (i+1)).flatten)&&(cg ds q).tells).Nodup:=List.Pairwise.filter _ AN;have n2:((List.range ds.length).filter (fun q=>decide (q∈(bss.take i).flatten)&&(cg ds q).tells)++b.filter fun q=>(cg ds q).tells).Nodup:=by rw [zq63];refine zAB (List.Pairwise.filter _ AN) (List.Pairwise.filter _ ((h.srt b hm).imp cD)) fun q hq p hp e=>?_;subst e;rw [zq39,dF] at hq;obtain ⟨i',b',h1,h2,h3⟩:=mem_takeF.mp (of_decide_eq_true hq.2.1);have:=fT nd hb h2 (zq39.mp hp).1 h3;omega
   refine (D6 n2 n1).mpr fun q=>?_;rw [zq15,zq39,zq39,zq39,dF,dF,decide_eq_true_iff,decide_eq_true_iff,mS,zq36]
   constructor
   ·rintro (⟨z1,z2,z3⟩ | ⟨z1,z2⟩)
    ·exact zAB z1 (.inl z2) z3
    ·exact zAB (ltN hb z1) (.inr z1) z2
   ·rintro ⟨z1,z2 | z2,z3⟩
    ·exact .inl (zAB z1 z2 z3)
    ·exact .inr ⟨z2,z3⟩
theorem LayI.all{s:GA.BT}(h:gM (aQ ds) (soN ds) (uN us) bss (List.range ds.length)):∀i,i<=bss.length->LayI w ds bss s i (bts w ((aO ds bss).take i) s)
 |0,_=>⟨fun n=>by
   rw [dC (S':=fun _=>false) _ fun k _ _=>decide_eq_false (by rw [List.take_zero];exact fun z=>by cases z),gz (p:=0) _ (ce _) fun k _ _ z=>zq6 z.1];rfl,by
   rw [List.filter_eq_nil_iff.mpr (fun q _=>by rw [List.take_zero];simp)];exact (iL _).symm⟩
 |i+1,hi=>by
  obtain ⟨b,hb⟩:∃b,bss[i]?=some b:=⟨_,zq8 Jn⟩
  have hd:(aO ds bss)[i]?=some (b.map (cg ds)):=by unfold aO;rw [cf,hb];rfl
  rw [oo hd];exact (LayI.all h i Jn).step h hb
theorem xT{s:GA.BT}(h:gM (aQ ds) (soN ds) (uN us) bss (List.range ds.length)):(∀n,aJ (bts w (aO ds bss) s).1 n=aJ (GA.dos w ds s).1 n)/\(bts w (aO ds bss) s).2=(GA.dos w ds s).2:=by
 have z:=LayI.all (w:=w) (s:=s) h bss.length (zq0 _);rw [kP (by unfold aO;rw [zq1];exact zq0 _)] at z;have al:∀q,q<ds.length->decide (q∈(bss.take bss.length).flatten)=true:=fun q hq=>by rw [eO];exact decide_eq_true (h.perm.mem_iff.mpr (zq36.mpr hq))
 have e:=eO (l:=ds);have q1:=fun n=>rQ (w:=w) (s:=s) (n:=n) ds.length (zq0 _);have q2:=pQ (w:=w) (s:=s) (ds:=ds) ds.length (zq0 _);rw [e] at q2;refine ⟨fun n=>?_,?_⟩
 ·have q3:=q1 n;rw [e] at q3;rw [z.bx,q3];exact dC _ fun k hk _=>al k hk
 ·rw [z.td,q2];congr 2;exact List.filter_congr fun q hq=>by rw [al q (zq36.mp hq),AH]
end
theorem A0(nd:(b.map (·.1)).Nodup){k:Key}{v:V}(h:b[i]?=some (k,v)):bI b k=some v:=by
 unfold bI
 cases e:b.find? (fun kv=>decide (kv.1=k)) with
 |none=>
  have:=List.find?_eq_none.mp e (k,v) (zq4 h);simp at this
 |some kv=>
  have h1:kv.1=k:=by have:=List.find?_some e;simpa using this
  obtain ⟨j,hj⟩:=zq66.mp (uX e);have e1:(b.map (·.1))[j]?=some k:=by rw [cf,hj];exact congrArg some h1
  have e2:(b.map (·.1))[i]?=some k:=by rw [cf,h];rfl
  have hj':=(zq10.mp e1)
  have hi':=(zq10.mp e2)
  obtain ⟨a1,a2⟩:=hj';obtain ⟨c1,c2⟩:=hi';have:j=i:=(List.getElem_inj nd).mp (a2.trans c2.symm);subst this;rw [h] at hj
  cases hj
  rfl
theorem Dg(h:IntD b)(h':IntD b'){ks:List Str}(hk:b.map (·.1)=ks.map Sum.inr)(hk':b'.map (·.1)=ks.map Sum.inr)(hv:∀n,aJ b n=aJ b' n):b=b':=by
 refine List.ext_getElem? fun i=>?_;have e1:=congrArg (fun l=>l[i]?) hk;have e2:=congrArg (fun l=>l[i]?) hk';rw [cf,cf] at e1 e2
 cases hi:ks[i]? with
 |none=>
  rw [hi] at e1 e2;rw [zq147.mp e1,zq147.mp e2]
 |some n=>rw [hi] at e1 e2;obtain ⟨⟨k,v⟩,g1,g2⟩:=zq27.mp e1;obtain ⟨⟨k',v'⟩,g3,g4⟩:=zq27.mp e2;have g2:k=Sum.inr n:=g2;have g4:k'=Sum.inr n:=g4;subst g2 g4;obtain ⟨x,hx⟩:=h.nums _ (zq4 g1);obtain ⟨y,hy⟩:=h'.nums _ (zq4 g3);have hx:v=.int x:=hx;have hy:v'=.int y:=hy;have z:=hv n;unfold aJ FG.j6 at z;rw [A0 h.nd g1,A0 h'.nd g3,hx,hy] at z;have z:x=y:=z;rw [g1,g3,hx,hy,z]
theorem gE{F:List FZ.Blk}{w:Int}:∀{m i:Nat} {s:GA.BT},s.2 <+: (GO.cB F w m i s).1.2
 |0,i,s=>qQ _
 |m+1,i,s=>by
  have hb:∀b0 (l:List Deed),s.2 <+: (GO.beat w b0 l s).2:=fun b0 l=>by rw [iN];exact Ar _ _
  rw [GO.cB]
  split
  ·exact qQ _
  ·split
   ·exact hb _ _
   ·exact (hb _ _).trans gE
def jI(F:List FZ.Blk)(m:Nat)(bs:List (List Deed))(ed:FZ.Ed):Prop:=∀j,j<bs.length->F[m+j]?=(g8 m bs ed)[j]?
theorem ni{F:List FZ.Blk}{w:Int}{m:Nat}{bs:List (List Deed)}{ed:FZ.Ed}(hR:jI F m bs ed){st:GA.BT}{q:Nat}:∀j,j+1<=bs.length->GO.cB F w (q+j) m st=GO.cB F w q (m+j) (bts w (bs.take j) st)
 |0,_=>rfl
 |j+1,hj=>by
  have ih:=ni hR (w:=w) (st:=st) (q:=q+1) j Jn;have hb:bs[j]?=some bs[j]:=zq8 Jn;have hr:F[m+j]?=some ⟨bs[j],.go (m+j+1)⟩:=by rw [hR j Jn,g8,jr (by rw [x4,kN];omega),List.getElem?_mapIdx,AE,if_pos Jn,hb];rfl
  rw [show q+(j+1)=q+1+j by omega,ih,GO.fj hr,GO.tR,oo hb];rfl
theorem zq{F:List FZ.Blk}{w:Int}{m:Nat}{bs:List (List Deed)}{ed:FZ.Ed}(hR:jI F m bs ed)(hn:bs≠[]){st:GA.BT}{q:Nat}:GO.cB F w (q+bs.length) m st=match GA.nxt (bts w bs.dropLast st).1 ed with
  |none=>(bts w bs st,true)
  |some k=>GO.cB F w q k (bts w bs st):=by
 have hl:=zq74.mpr hn;have hr:F[m+(bs.length-1)]?=some ⟨eV bs,ed⟩:=by rw [hR _ Jn,g8,j9 (by rw [x4,kN];exact zq0 _),x4,kN,nL];rfl
 have e:bts w bs st=GO.beat w (bts w bs.dropLast st).1 (eV bs) (bts w bs.dropLast st):=by
  conv=>lhs;rw [mP hn,i9]
  rfl
 rw [show q+bs.length=q+1+(bs.length-1) by omega,ni hR (bs.length-1) Jn,GO.fj hr,GO.tR,<- Da,e]
 all_goals cases GA.nxt (bts w bs.dropLast st).1 ed<;>rfl
theorem Bg{fs:List Nat}{b:Bx}{ed:FZ.Ed}:GA.nxt b (rm fs ed)=(GA.nxt b ed).map fun j=>fs.getD j 0:=by
 cases ed with
 |stop=>rfl
 |go i=>rfl
 |choose n i j=>
  show some (if aJ b n≠0 then fs.getD i 0 else fs.getD j 0)=some (fs.getD (if aJ b n≠0 then i else j) 0)
  split<;>rfl
theorem ya{b b':Bx}{ed:FZ.Ed}(h:∀n i j,ed=.choose n i j->aJ b n=aJ b' n):GA.nxt b ed=GA.nxt b' ed:=by
 cases ed with
 |stop=>rfl
 |go i=>rfl
 |choose n i j=>unfold GA.nxt;dsimp only;rw [h n i j rfl]
structure BK(ns:List Str)(w:Int)(ks:List Str)(b:Bx):Prop where
 g:BxG ns w b
 k:b.map (·.1)=ks.map Sum.inr
theorem BK.dos{ns ks:List Str}{w:Int}(hw:1<=w):∀{ds:List Deed} {s:GA.BT},BK ns w ks s.1->(∀d∈ds,Deed.good ns w d)->BK ns w ks (GA.dos w ds s).1
 | [],s,h,_=>h
 |d::r,s,h,hd=>BK.dos hw (ds:=r) (s:=(doB w d s.1,doT w d s.1 s.2)) ⟨h.g.doB (hd d (eL ..)) hw,(GO.oT h.g (hd d (eL ..))).trans h.k⟩ fun e he=>hd e (zq9 _ he)
theorem BK.bts{ns ks:List Str}{w:Int}(hw:1<=w):∀{bs:List (List Deed)} {s:GA.BT},BK ns w ks s.1->(∀l∈bs,∀d∈l,Deed.good ns w d)->BK ns w ks (bts w bs s).1
 | [],s,h,_=>h
 |l::r,s,h,hd=>by obtain ⟨h1,h2⟩:=GO.BxG.beat h.g hw h.g (hd l (eL ..));exact BK.bts hw (bs:=r) (s:=GO.beat w s.1 l s) ⟨h1,h2.trans h.k⟩ fun e he=>hd e (zq9 _ he)
theorem Cz{ns ks:List Str}{w:Int}{us:List Int}{b:FZ.Blk}{bss:List (List Nat)}{s:GA.BT}(hw:1<=w)(hg:gM (aQ b.ds) (soN b.ds) (uN us) bss (List.range b.ds.length))(hs:BK ns w ks s.1)(hd:∀d∈b.ds,Deed.good ns w d):bts w (aO b.ds bss) s=GA.dos w b.ds s:=by
 obtain ⟨h1,h2⟩:=xT (w:=w) (s:=s) hg;have hb:∀l∈aO b.ds bss,∀d∈l,Deed.good ns w d:=fun l hl d hdl=>by obtain ⟨c,hc,rfl⟩:=zq21.mp hl;obtain ⟨p,hp,rfl⟩:=zq21.mp hdl;have hlt:=(eU hg c hc).2.2 p hp;exact hd _ (zq4 (ij hlt))
 have k1:=BK.bts hw hs hb;have k2:=BK.dos hw hs hd;exact Prod.ext (Dg k1.g.isI k2.g.isI k1.k k2.k h1) h2
theorem bts_F{w:Int}{b:FZ.Blk}{bss:List (List Nat)}{s:GA.BT}:bts w (cc b bss) s=bts w (aO b.ds bss) s:=by
 unfold cc
 split
 ·rw [i9];rfl
 ·rfl
theorem lF{us:List Int}{ds:List Deed}{bss:List (List Nat)}(hg:gM (aQ ds) (soN ds) (uN us) bss (List.range ds.length)):(aO ds bss).length<=ds.length:=by
 have z:=hg.perm.length_eq;rw [gL] at z;have key:∀l:List (List Nat),(∀b∈l,b≠[])->l.length<=l.flatten.length:=by
  intro l
  induction l with
  |nil=>intro _;exact ce _
  |cons b r ih=>intro h;have h1:=zq74.mpr (h b (eL ..));have h2:=ih fun c hc=>h c (zq9 _ hc);rw [AC,zq3,dk];omega
 have:=key bss hg.ne;unfold aO;rw [zq1];omega
section
variable {ns ks:List Str} {w:Int} {us:List Int} {F:List FZ.Blk} {b:FZ.Blk} {bs:List (List Deed)} {m:Nat} {fs:List Nat} {st:GA.BT}
theorem oV(hw:1<=w)(hL:eP us b bs)(hR:jI F m bs (rm fs b.ed))(hs:BK ns w ks st.1)(hd:∀d∈b.ds,Deed.good ns w d)(q:Nat):GO.cB F w (q+bs.length) m st=match GA.nxt (GA.dos w b.ds st).1 b.ed with
  |none=>(GA.dos w b.ds st,true)
  |some j=>GO.cB F w q (fs.getD j 0) (GA.dos w b.ds st):=by
 obtain ⟨bss,hg,rfl⟩:=hL;have e1:bts w (cc b bss) st=GA.dos w b.ds st:=bts_F.trans (Cz hw hg hs hd);have e2:GA.nxt (bts w (cc b bss).dropLast st).1 b.ed=GA.nxt (GA.dos w b.ds st).1 b.ed:=by
  refine ya fun n i j he=>?_;have el:∀d∈eV (cc b bss),n∉d.writes:=by
   unfold cc
   split
   ·unfold eV;rw [List.getLastD_concat];intro d hd;cases hd
   ·next h=>
    intro d hd hn;rw [kO,not_or,he] at h;refine h.2 ?_;rw [ji,wrB,zq69];refine zn d hd (decide_eq_true ?_);unfold wrV
    cases d with
    |tell a=>cases hn
    |copy x a=>rw [zq2.mp hn];rfl
    |op f x y z=>rw [zq2.mp hn];rfl
  rw [<- e1]
  conv=>rhs;rw [mP (iO (b:=b) (bss:=bss)),i9]
  exact (i7 el).symm
 rw [zq hR iO,Bg,e2,e1]
 cases GA.nxt (GA.dos w b.ds st).1 b.ed<;>rfl
theorem vJ(hw:1<=w)(hL:eP us b bs)(hR:jI F m bs (rm fs b.ed))(hs:BK ns w ks st.1)(hd:∀d∈b.ds,Deed.good ns w d){q:Nat}(hq:b.ds.length<=q):(GA.dos w b.ds st).2 <+: (GO.cB F w q m st).1.2:=by
 have hL':=hL;obtain ⟨bss,hg,rfl⟩:=hL;have lb:=lF hg
 by_cases h:((aO b.ds bss).isEmpty || ji (aO b.ds bss) b.ed)=true
 ·have e:cc b bss=aO b.ds bss++[[]]:=by unfold cc;rw [if_pos h]
  have z:=ni hR (w:=w) (st:=st) (q:=q-(aO b.ds bss).length) (aO b.ds bss).length (by rw [e,zq3];exact zq0 _);rw [show q-(aO b.ds bss).length+(aO b.ds bss).length=q by omega] at z;rw [z,e,List.take_left,Cz hw hg hs hd];exact gE
 ·have e:cc b bss=aO b.ds bss:=by unfold cc;rw [if_neg h]
  have z:=oV hw hL' hR hs hd (q-(cc b bss).length);rw [e,show q-(aO b.ds bss).length+(aO b.ds bss).length=q by omega] at z;rw [z]
  split
  ·exact qQ _
  ·exact gE
theorem vI(hL:eP us b bs):bs.length<=b.ds.length+1:=by
 obtain ⟨bss,hg,rfl⟩:=hL;have lb:=lF hg;unfold cc
 split
 ·rw [zq3,cG];omega
 ·omega
end
theorem qE{B:List FZ.Blk}{bbs:List (List (List Deed))}(hl:B.length=bbs.length){i:Nat}:∀k,i<=k->k<=B.length->gK B bbs i <+: gK B bbs k
 |0,h,_=>by
  obtain rfl:i=0:=by omega
  exact qQ _
 |k+1,h,hk=>by
  by_cases e:i=k+1
  ·rw [e];exact qQ _
  ·have hb:B[k]?=some B[k]:=zq8 Jn;have hs:bbs[k]?=some bbs[k]:=zq8 Jn;rw [dU hb hs,mz];exact (qE hl k Jn Jn).trans (Ar _ _)
theorem zV{B:List FZ.Blk}{bbs:List (List (List Deed))}(hl:B.length=bbs.length)(hne:∀bs∈bbs,bs≠[]){i:Nat}{b:FZ.Blk}{bs:List (List Deed)}(hb:B[i]?=some b)(hs:bbs[i]?=some bs):jI (j2 B bbs) (fI (bbs.take i)) bs (rm (bJ bbs) b.ed):=fun j hj=>by have hi:=(zq10.mp hb).1;have len:=gc hl hne i Jn;have hn:=hne _ (zq4 hs);have hr:=lZ (m:=(gK B bbs i).length) (ed:=rm (bJ bbs) b.ed) hn;obtain ⟨r,hr2⟩:=qE hl (i:=i+1) B.length Jn (zq0 _);rw [<- g9 hl,<- hr2,dU hb hs,mz];dsimp only;rw [jr (by rw [zq3,hr,len];omega),j9 Jn,len,Nat.add_sub_cancel_left]
structure TC(F T:List FZ.Blk)(fs:List Nat)(ns ks:List Str)(w:Int):Prop where
 hw:1<=w
 gd:∀b∈F,(∀d∈b.ds,Deed.good ns w d)/\b.ds.length<=8
 run:∀(i:Nat)b (st:GA.BT),F[i]?=some b->BK ns w ks st.1->∃L,L<=b.ds.length+1/\(∀q,GO.cB T w (q+L) (fs.getD i 0) st=match GA.nxt (GA.dos w b.ds st).1 b.ed with
   |none=>(GA.dos w b.ds st,true)
   |some j=>GO.cB T w q (fs.getD j 0) (GA.dos w b.ds st))/\∀q,b.ds.length<=q->(GA.dos w b.ds st).2 <+: (GO.cB T w q (fs.getD i 0) st).1.2
theorem F0{ns ks:List Str}{w:Int}{us:List Int}{B:List FZ.Blk}{bbs:List (List (List Deed))}(hw:1<=w)(hG:FZ.i4 ns w B.length B)(hL:Paired (eP us) B bbs)(up:∀s,s<3->0<=uN us s):TC B (j2 B bbs) (bJ bbs) ns ks w:=by
 have hl:=hL.length;have hm:∀bs∈bbs,bs≠[]:=fun bs hbs=>by obtain ⟨i,hi⟩:=zq66.mp hbs;obtain ⟨b,h1,h2⟩:=Paired.getR hL hi;exact (cW up (hG b (zq4 h1)).len h2).1
 refine ⟨hw,fun b hb=>⟨(hG b hb).gd,(hG b hb).len⟩,fun i b st hb hs=>?_⟩;obtain ⟨bs,h1,h2⟩:=Paired.get hL hb;have hi:=(zq10.mp h1).1;have hR:=zV hl hm hb h1;have hg:=(hG b (zq4 hb)).gd;rw [(gm hm hi).1];exact zAC bs.length (vI h2) (fun q=>oV hw h2 hR hs hg q) fun q hq=>vJ hw h2 hR hs hg hq
section
variable {F T:List FZ.Blk} {fs:List Nat} {ns ks:List Str} {w:Int} {t0:GA.BT}
structure TD(F T:List FZ.Blk)(fs:List Nat)(ns ks:List Str)(w:Int)(t0 s:GA.BT)(i:Nat)(b:FZ.Blk)(e:Nat)(s0:GA.BT)(C:Nat):Prop where
 fi:F[i]?=some b
 le:e<=b.ds.length
 ds:GA.dos w (b.ds.take e) s0=s
 run:∀m,GO.cB T w (m+C) 0 t0=GO.cB T w m (fs.getD i 0) s0
 bk:BK ns w ks s0.1
theorem oH{b:FZ.Blk}{e:Nat}(h:e<=b.ds.length)(hd:b.ds.drop e=[]):e=b.ds.length:=by have:=congrArg List.length hd;rw [AG,List.length_nil] at this;omega
theorem TD.move(hT:TC F T fs ns ks w){s s0:GA.BT}{i j e C:Nat}{b b':FZ.Blk}(h:TD F T fs ns ks w t0 s i b e s0 C)(he:b.ds.drop e=[])(hn:GA.nxt s.1 b.ed=some j)(hj:F[j]?=some b'):∃C',C'<=C+e+1/\TD F T fs ns ks w t0 s j b' 0 s C':=by
 have el:=oH h.le he;have hd:=h.ds;rw [el,eO] at hd;obtain ⟨L,hL,h1,_⟩:=hT.run i b s0 h.fi h.bk;rw [hd,hn] at h1;refine ⟨C+L,Jn,hj,ce _,rfl,fun m=>?_,?_⟩
 ·rw [show m+(C+L)=m+L+C by omega,h.run,h1]
 ·rw [<- hd];exact BK.dos hT.hw h.bk (hT.gd b (zq4 h.fi)).1
def TI(F T:List FZ.Blk)(fs:List Nat)(ns ks:List Str)(w:Int)(t0:GA.BT)(n:Nat)(s:Stt):Prop:=∃(i:Nat)(b:FZ.Blk)(e:Nat)(s0:GA.BT)(C:Nat),TD F T fs ns ks w t0 (s.bx,s.told) i b e s0 C/\GA.Rep F s.left ⟨b.ds.drop e,b.ed⟩/\C+e<=2 * n/\(1<=e->C+8<=4 * n+4)
theorem TI.stepN(hT:TC F T fs ns ks w){x:Stm}{l:List Stm}{bx:Bx}{tl:List Int}{i e C n:Nat}{b:FZ.Blk}{s0:GA.BT}(h:TD F T fs ns ks w t0 (bx,tl) i b e s0 C)(hr:GA.Rep F (x::l) ⟨b.ds.drop e,b.ed⟩)(hn:¬∃j,(⟨b.ds.drop e,b.ed⟩:FZ.Blk)=⟨[],.go j⟩)(hC:C+e<=2 * n+1)(hd:∀d,x=.deed d->C+8<=4 * n+8):
  TI F T fs ns ks w t0 (n+1) (cF w ⟨x::l,bx,tl⟩):=by
 generalize hc:(⟨b.ds.drop e,b.ed⟩:FZ.Blk)=c at hr hn;have jump:∀{l':List Stm} {nm:Str} {j k:Nat},c=⟨[],.choose nm j k⟩->GA.Rep F l' ⟨[],.go (if aJ bx nm≠0 then j else k)⟩->TI F T fs ns ks w t0 (n+1) ⟨l',bx,tl⟩:=by intro l' nm j k ec hr';rw [ec] at hc;have e1:b.ds.drop e=[]:=congrArg FZ.Blk.ds hc;have e2:b.ed=.choose nm j k:=congrArg FZ.Blk.ed hc;obtain ⟨b',h1,h2,_⟩:=hr'.hop rfl;obtain ⟨C',hC',hD⟩:=h.move hT e1 (by rw [e2];rfl) h1;exact zBQ _ b' 0 _ C' hD h2 Jn fun z=>by omega
 have loop:∀{nm:Str} {a:List Stm} {c0 c1:FZ.Blk} {i j L:Nat},GA.Way F c0 i->GA.Rep F l c0->F[L]?=some ⟨[],.choose nm j i⟩->GA.kQ F a ⟨[],.go L⟩ c1->GA.Way F c1 j->GA.Rep F (if aJ bx nm≠0 then a++.whl nm a::l else l) ⟨[],.go (if aJ bx nm≠0 then j else i)⟩:=by
  intro nm a c0 c1 i j L h1 h2 h3 h4 h5
  by_cases z:aJ bx nm≠0
  ·rw [if_pos z,if_pos z];exact (GA.Rep.app h4 (.cons (.whl h1 h3 h4 h5) h2)).way h5
  ·rw [if_neg z,if_neg z];exact h2.way h1
 have deed:∀{d:Deed} {r:List Deed} {ed:FZ.Ed},x=.deed d->c=⟨d::r,ed⟩->GA.Rep F l ⟨r,ed⟩->TI F T fs ns ks w t0 (n+1) (cF w ⟨x::l,bx,tl⟩):=by
  intro d r ed ex ec hr';subst ex;rw [ec] at hc;have e1:b.ds.drop e=d::r:=congrArg FZ.Blk.ds hc;have e2:b.ed=ed:=congrArg FZ.Blk.ed hc;have hde:b.ds[e]?=some d:=by have:=congrArg (fun l=>l[0]?) e1;rw [List.getElem?_drop,Nat.add_zero] at this;exact this
  have hlt:=(zq10.mp hde).1;have e3:b.ds.drop (e+1)=r:=by rw [<- List.drop_drop,e1];rfl
  refine zBQ i b (e+1) s0 C ⟨h.fi,hlt,?_,h.run,h.bk⟩ ?_ Jn fun _=>by have:=hd d rfl;omega
  ·rw [GA.jV hde,h.ds];rfl
  ·rw [e3,e2];exact hr'
 cases hr with
 |go h1 h2 h3=>exact absurd ⟨_,rfl⟩ hn
 |head w0 h1 hL ha hw=>exact jump rfl (loop w0 h1 hL ha hw)
 | @cons _ _ b1 _ hs h1=>
  cases hs with
  |add=>exact deed rfl rfl h1
  |cut hw=>exact deed rfl rfl (h1.way hw)
  |whl w0 hL ha hw=>exact absurd ⟨_,rfl⟩ hn
  | @ifs nm y z b2 c1 e1 i j k w0 hx wx hy wy=>
   refine jump rfl ?_;show GA.Rep F ((if aJ bx nm≠0 then y else z)++l) _
   by_cases q:aJ bx nm≠0
   ·rw [if_pos q,if_pos q];exact (GA.Rep.app hx (h1.way w0)).way wx
   ·rw [if_neg q,if_neg q];exact (GA.Rep.app hy (h1.way w0)).way wy
theorem TI.step(hT:TC F T fs ns ks w){s:Stt}{n:Nat}(h:TI F T fs ns ks w t0 n s)(h0:n=0->∀d r,s.left=.deed d::r->∃(i:Nat)(b:FZ.Blk)(s0:GA.BT),TD F T fs ns ks w t0 (s.bx,s.told) i b 0 s0 0/\GA.Rep F s.left ⟨b.ds.drop 0,b.ed⟩/\¬∃j,b=⟨[],.go j⟩):TI F T fs ns ks w t0 (n+1) (cF w s):=by
 obtain ⟨l,bx,tl⟩:=s;obtain ⟨i,b,e,s0,C,hD,hR,hC,h8⟩:=h
 cases l with
 |nil=>exact zBQ i b e s0 C hD hR Jn fun z=>by have:=h8 z;omega
 |cons x l=>
  by_cases hz:n=0/\∃d,x=.deed d
  ·obtain ⟨hz,d,hx⟩:=hz;obtain ⟨i,b,s0,g1,g2,g3⟩:=h0 hz d l (by rw [hx]);exact TI.stepN hT g1 g2 (fun ⟨j,z⟩=>g3 ⟨j,z⟩) Jn fun _ _=>by omega
  by_cases hn:∃j,(⟨b.ds.drop e,b.ed⟩:FZ.Blk)=⟨[],.go j⟩
  ·obtain ⟨j,hj⟩:=hn;obtain ⟨b',h1,h2,h3⟩:=hR.hop hj;have e1:b.ds.drop e=[]:=congrArg FZ.Blk.ds hj;have e2:b.ed=.go j:=congrArg FZ.Blk.ed hj;obtain ⟨C',hC',hD'⟩:=hD.move hT e1 (by rw [e2];rfl) h1;refine TI.stepN hT hD' h2 (fun ⟨j,z⟩=>h3 ⟨j,z⟩) Jn fun d hd=>?_;have:n≠0:=fun z=>hz ⟨z,d,hd⟩;omega
  ·exact TI.stepN hT hD hR hn Jn fun d hd=>by
    by_cases z:1<=e
    ·have:=h8 z;omega
    ·omega
end
theorem lK{ss:List Stm}{T:List FZ.Blk}{fs:List Nat}{ns ks:List Str}{w:Int}{b:Bx}{t:List Int}(hT:TC (FZ.b7 ss) T fs ns ks w)(h0:fs.getD 0 0=0)(hb:BK ns w ks b):∀n,TI (FZ.b7 ss) T fs ns ks w (b,t) n (cw w n ⟨ss,b,t⟩):=by
 obtain ⟨c,h1,h2⟩:=GA.mD ss;have hD:TD (FZ.b7 ss) T fs ns ks w (b,t) (b,t) 0 c 0 (b,t) 0:=⟨h1,ce _,rfl,fun m=>by rw [h0];rfl,hb⟩
 have base:TI (FZ.b7 ss) T fs ns ks w (b,t) 0 ⟨ss,b,t⟩:=zBQ 0 c 0 (b,t) 0 hD h2 (zq0 _) fun z=>by omega
 intro n
 induction n with
 |zero=>exact base
 |succ n ih=>
  refine TI.step hT ih fun hn d r hl=>?_;subst hn;refine zAO 0 c (b,t) hD h2 ?_;have e0:FZ.b7 ss=(FZ.aV ss ⟨[],.stop⟩ [⟨[],.stop⟩]).2.set 0 (FZ.aV ss ⟨[],.stop⟩ [⟨[],.stop⟩]).1:=rfl;have hl:ss=.deed d::r:=hl;rintro ⟨j,rfl⟩;have g:=FZ.bG ss ⟨[],.stop⟩ [⟨[],.stop⟩];rw [e0,AF (by have:=g.1;rw [cG] at this;omega)] at h1;have h1:=Option.some.inj h1;subst hl;rw [FZ.aV,FZ.bZ] at h1
  split at h1
  ·have:=congrArg FZ.Blk.ds h1;cases this
  ·have:=congrArg FZ.Blk.ds h1;cases this
section
variable {ss:List Stm} {T:List FZ.Blk} {fs:List Nat} {ns ks:List Str} {w:Int} {b:Bx} {t:List Int} {n m:Nat}
theorem wL(hT:TC (FZ.b7 ss) T fs ns ks w)(h0:fs.getD 0 0=0)(hb:BK ns w ks b)(h:(cw w n ⟨ss,b,t⟩).left=[])(hm:2 * n+2<=m):GO.cB T w m 0 (b,t)=(((cw w n ⟨ss,b,t⟩).bx,(cw w n ⟨ss,b,t⟩).told),true):=by
 obtain ⟨i,c,e,s0,C,hD,hR,hC,_⟩:=lK (t:=t) hT h0 hb n;generalize cw w n ⟨ss,b,t⟩=s at *;have fin:∀{i:Nat} {c:FZ.Blk} {e C:Nat} {s0:GA.BT},TD (FZ.b7 ss) T fs ns ks w (b,t) (s.bx,s.told) i c e s0 C->c.ds.drop e=[]->c.ed=.stop->C+e+1<=m->GO.cB T w m 0 (b,t)=((s.bx,s.told),true):=by intro i c e C s0 hD hd he hm;have el:=oH hD.le hd;have hs:=hD.ds;rw [el,eO] at hs;obtain ⟨L,hL,h1,_⟩:=hT.run i c s0 hD.fi hD.bk;have z:=hD.run (m-C-L+L);rw [h1,he,hs,show m-C-L+L+C=m by omega] at z;exact z
 rw [h] at hR;generalize hc:(⟨c.ds.drop e,c.ed⟩:FZ.Blk)=c' at hR
 cases hR with
 |nil=>exact fin hD (congrArg FZ.Blk.ds hc) (congrArg FZ.Blk.ed hc) Jn
 | @go _ b' j h1 h2 h3=>
  have e1:c.ds.drop e=[]:=congrArg FZ.Blk.ds hc;have e2:c.ed=.go j:=congrArg FZ.Blk.ed hc;obtain ⟨C',hC',hD'⟩:=hD.move hT e1 (by rw [e2];rfl) h2
  cases h1 with
  |nil=>exact fin hD' rfl rfl Jn
  |go=>exact absurd ⟨_,rfl⟩ h3
theorem wM(hT:TC (FZ.b7 ss) T fs ns ks w)(h0:fs.getD 0 0=0)(hb:BK ns w ks b)(hm:4 * n+4<=m):(cw w n ⟨ss,b,t⟩).told <+: (GO.cB T w m 0 (b,t)).1.2:=by
 obtain ⟨i,c,e,s0,C,hD,hR,hC,h8⟩:=lK (t:=t) hT h0 hb n;generalize cw w n ⟨ss,b,t⟩=s at *;have z:=hD.run (m-C);rw [show m-C+C=m by omega] at z;rw [z];have ds:=hD.ds
 by_cases he:1<=e
 ·obtain ⟨L,hL,_,h1⟩:=hT.run i c s0 hD.fi hD.bk;have hl:=(hT.gd c (zq4 hD.fi)).2;have h2:=h1 (m-C) (by have:=h8 he;omega);refine List.IsPrefix.trans ?_ h2;have app:GA.dos w c.ds s0=GA.dos w (c.ds.drop e) (GA.dos w (c.ds.take e) s0):=by
   have app:∀(l m:List Deed)(s:GA.BT),GA.dos w (l++m) s=GA.dos w m (GA.dos w l s):=by
    intro l
    induction l with
    |nil=>intro m s;rfl
    |cons x r ih=>intro m s;exact ih m _
   rw [<- app,vd]
  rw [app,ds];exact GA.oG (s:=(s.bx,s.told))
 ·obtain rfl:e=0:=by omega
  have e1:s0=(s.bx,s.told):=ds;rw [e1];exact gE (s:=(s.bx,s.told))
end
variable {H:Hp}
def StV(K:W.Frag)(H:Hp)(x:V)(b:FZ.Blk):Prop:=∃q a e vs,x=.ref q/\SqT K H q [.ref a,.ref e]/\H a=some (.lst vs)/\Paired (DeedV1 K H) vs b.ds/\SqT K H e (dG b.ed)
theorem StV.same{K:W.Frag}{H':Hp}{x:V}{b:FZ.Blk}(h:StV K H x b)(s:Same H H'):StV K H' x b:=by obtain ⟨q,a,e,vs,ex,h1,h2,h3,h4⟩:=h;exact zAN q a e vs ex (s.seqT h1) (s _ _ h2) (FL.Paired.imp h3 fun y _ d _ ⟨q,e,z,f⟩=>zAC q e (s.seqT z) f) (s.seqT h4)
def TabV(K:W.Frag)(H:Hp)(tb:Addr)(F:List FZ.Blk):Prop:=∃xs,H tb=some (.lst xs)/\Paired (StV K H) xs F
theorem TabV.same{K:W.Frag}{H':Hp}{tb:Addr}{F:List FZ.Blk}(h:TabV K H tb F)(s:Same H H'):TabV K H' tb F:=by obtain ⟨xs,h1,h2⟩:=h;exact zn xs (s _ _ h1) (FL.Paired.imp h2 fun y _ d _ z=>z.same s)
theorem TabV.at{K:W.Frag}{tb:Addr}{F:List FZ.Blk}(h:TabV K H tb F){i:Nat}{b:FZ.Blk}(hb:F[i]?=some b):∃xs x,H tb=some (.lst xs)/\xs[i]?=some x/\StV K H x b:=by obtain ⟨xs,h1,h2⟩:=h;obtain ⟨x,hx,hv⟩:=Paired.getR h2 hb;exact zAA xs x h1 hx hv
def kg(b:Bx)(e:FZ.Ed):V:=match GA.nxt b e with
 |none=>.non
 |some j=>.int j
def sW(K:W.Frag)(e bx:Addr)(H:Hp)(Q:VK):Prop:=∃(ed:FZ.Ed)(b:Bx)(ns:List Str)(w:Int),SqT K H e (dG ed)/\H bx=some (.dK b)/\BxG ns w b/\(∀n i j,ed=.choose n i j->n∈ns)/\Q (kg b ed) H
def uH(K:W.Frag):Sp:=fun vs H Q _=>∃e bx:Addr,vs=[.ref e,.ref bx]/\sW K e bx H Q
theorem z9{e bx:Addr}{Q:VK}{E:XK}:uH K [.ref e,.ref bx] H Q E=sW K e bx H Q:=propext ⟨by rintro ⟨_,_,e,q⟩;cases e;exact q,fun q=>zAD _ _ rfl q⟩
theorem Bt(T:Txt K mg t):FnOk P w K mg base CX0 1 t.f_20 t.e_20 ["ending","boxes"] (uH K):=by
 refine T.d_20.F.ok HL ∅ ?_;rintro cdv A outer s H vs Q E hr ⟨e,bx,rfl,ed,b,ns,w,hq,hb,hG,hn,q⟩;have hu:=cT hr;refine ⟨_,
   (XSs.h
   (ai
    (aG (av aR (am aw (yqv 0 vl) ae) aI (aA _))
     (ak
      (au (am aw (yqv 0 vl) ae)))
     aC)
   (ai
    (aG (av aR (am aw (yqv 0 vl) ae) aI (aA _))
     (ak
      (au (cM (av eF (cu hu (yqv 1 vl) (am aw (yqv 0 vl) ae) (fun _ _=>rfl)) ae (aA _)) (am aw (yqv 0 vl) ae) (am aw (yqv 0 vl) ae))))
     aC)
   (ak
    (au dc))))),?_⟩
 rw [show aL _ [V.ref e,V.ref bx]=[some (.ref e),some (.ref bx)] from rfl];rwa []
 cases ed with
 |stop=>
  refine zAA _ _ hq rfl ?_;rwa [];refine aF (fun z=>absurd z Jk) (fun _=>zAE _ _ hq rfl rfl (zn _ rfl ?_));refine aF (fun z=>absurd z Jk) (fun _=>q)
 |go i=>
  refine zAA _ _ hq rfl ?_;rwa [];exact aF (fun _=>zAA _ _ hq rfl q) (fun z=>absurd trivial z)
 |choose n i j=>
  refine zAA _ _ hq rfl ?_;rwa [];refine aF (fun z=>absurd z Jk) (fun _=>zAE _ _ hq rfl rfl (zn _ rfl ?_));refine aF (fun _=>zAA _ _ hq rfl (zAA bx _ rfl (.inl (zAA b (.inr n) (.inl hb) rfl (hG.val (hn n i j rfl)).symm)) ?_)) (fun z=>absurd rfl z);have e:kg b (.choose n i j)=if aJ b n≠0 then V.int i else .int j:=by
   unfold kg GA.nxt;dsimp only
   by_cases h:aJ b n=0
   ·rw [if_neg (fun z=>z h),if_neg (fun z=>z h)]
   ·rw [if_pos h,if_pos h]
  rw [e] at q;rwa [];refine fU (fun h=>?_) (fun h=>?_)
  ·rw [if_pos h] at q;exact zAA _ _ hq rfl q
  ·rw [if_neg (fun z=>z h)] at q;exact zAA _ _ hq rfl q
variable {H:Hp} {p:Addr}
theorem pH{f:Str}{v:V}:∀fs:List (Str×V),(di f v fs).length<=fs.length+1
 | []=>zq0 _
 | (g,x)::r=>by
  rw [di]
  split
  ·exact qK _
  ·rw [dk,dk];have:=pH (f:=f) (v:=v) r;omega
def rY(wd:Int)(tb bx td:Addr)(pl:V):List (Str×V):=[("width",.int wd),("table",.ref tb),("boxes",.ref bx),("told",.ref td),("place",pl)]
structure TRunH(C:Addr)(H0 H:Hp)(p tb bx td:Addr)(wd:Int)(pl:V)(s:GA.BT):Prop where
 same:Same H0 H
 ob:∃dx,H p=some (.ins C dx (rY wd tb bx td pl))
 bxs:H bx=some (.dK s.1)
 tds:H td=some (.lst (s.2.map V.int))
 fr:H0 p=none/\H0 bx=none/\H0 td=none
theorem TRunH.mv{C tb bx td:Addr}{H0 H':Hp}{wd:Int}{pl:V}{s:GA.BT}(h:TRunH C H0 H p tb bx td wd pl s)(sm:Same H H'):TRunH C H0 H' p tb bx td wd pl s:=
 ⟨h.same.trans sm,let ⟨dx,e⟩:=h.ob;⟨dx,sm _ _ e⟩,sm _ _ h.bxs,sm _ _ h.tds,h.fr⟩
def og(K:W.Frag)(C CP:Addr)(p pp tb c:Addr)(H:Hp)(Q:VK):Prop:=∃(H0:Hp)(dx:Addr)(wd:Int)(ins oth:List Str)(ss:List Stm)(a b r:Addr)(xs:List V)(f:List Addr)(ws:Bx),Same H0 H/\H0 p=none/\H p=some (.ins C dx [])/\ProgAt K CP H0 pp wd ins oth ss a b r xs f/\WordsIn H0 c ws ins wd/\(ins++oth).length<=1000/\
 ∀bx td H',TRunH C H0 H' p tb bx td wd (.int 0) (aK ins ws (ins++oth),[])->Q .non H'
def ql(K:W.Frag)(C CP:Addr):Sp:=fun vs H Q _=>∃(p pp tb c:Addr),vs=[.ref p,.ref pp,.ref tb,.ref c]/\og K C CP p pp tb c H Q
structure StG(ns:List Str)(wd:Int)(b:FZ.Blk):Prop where
 gd:∀d∈b.ds,Deed.good ns wd d
 nm:∀n i j,b.ed=.choose n i j->n∈ns
 len:b.ds.length<=60
def lD(K:W.Frag)(C:Addr)(p:Addr)(H:Hp)(Q:VK):Prop:=∃(H0:Hp)(tb bx td:Addr)(wd:Int)(i:Nat)(s:GA.BT)(F:List FZ.Blk)(b:FZ.Blk)(ns:List Str),TRunH C H0 H p tb bx td wd (.int i) s/\TabV K H0 tb F/\F[i]?=some b/\StG ns wd b/\BxG ns wd s.1/\1<=wd/\wd<=8/\s.2.length<=1000000/\
 ∀bx' H',TRunH C H0 H' p tb bx' td wd (kg s.1 b.ed) (GO.beat wd s.1 b.ds s)->Q .non H'
def ma(K:W.Frag)(C:Addr):Sp:=fun vs H Q _=>∃(p:Addr),vs=[.ref p]/\lD K C p H Q
theorem ul{C CP pp tb c:Addr}{Q:VK}{E:XK}:ql K C CP [.ref p,.ref pp,.ref tb,.ref c] H Q E=og K C CP p pp tb c H Q:=propext ⟨by rintro ⟨_,_,_,_,e,q⟩;cases e;exact q,fun q=>zAP _ _ _ _ rfl q⟩
theorem kq{C:Addr}{Q:VK}{E:XK}:ma K C [.ref p] H Q E=lD K C p H Q:=propext ⟨by rintro ⟨_,e,q⟩;cases e;exact q,fun q=>zn _ rfl q⟩
theorem yq(T:Txt K mg t):FnOk P w K mg base CX0 2 t.f_40 t.e_40 ["self","program","table","words"] (ql K t.C_TableRun t.C_Program):=by
 have G_29:=@pz P w K mg base t T;refine T.d_40.F.ok HW ∅ ?_;rintro cdv A outer s H vs Q E hr ⟨p,pp,tb,c,rfl,H0,dx,wd,ins,oth,ss,a,b,r,xs,f,ws,s0,hp0,hp,hP,hW,hl,q⟩;refine ⟨_,
   (XSs.h
   (ai
    (bR (yqv 0 vl) (aN (yqv 1 vl) rfl) rfl)
   (ai
    (bR (yqv 0 vl) (yqv 2 vl) rfl)
   (ai
    (bR (yqv 0 vl) (ap T.d_29 G_29 hr.m (aa (yqv 1 vl) (aa (yqv 3 vl) ac)) gl) rfl)
   (ai
    (bR (yqv 0 vl) (aT ac) rfl)
   (ak
    (bR (yqv 0 vl) ae rfl))))))),?_⟩
 rw [show aL _ [V.ref p,V.ref pp,V.ref tb,V.ref c]=[some (.ref p),some (.ref pp),some (.ref tb),some (.ref c)] from rfl];simp_arith! [iA];obtain ⟨dxp,hob⟩:=hP.ob;refine cn (s0 _ _ hob) T.c_Program.cl T.n_Program_width rfl (fu hp T.c_TableRun.cl T.n_TableRun_width Jo ?_);rw [bV Jp,sG];have s1:=s0.updM (o:=.ins t.C_TableRun dx [("width",V.int wd)]) hp0;have e1:upd H p (.ins t.C_TableRun dx [("width",V.int wd)]) p=some (.ins t.C_TableRun dx [("width",V.int wd)]):=aj;generalize upd H p (.ins t.C_TableRun dx [("width",V.int wd)])=H1 at s1 e1 ⊢;refine later ?_;simp_arith! [];refine fu e1 T.c_TableRun.cl T.n_TableRun_table Jo ?_;rw [bV Jl];have s2:=s1.updM (o:=.ins t.C_TableRun dx ([(("width":Str),V.int wd)]++[(("table":Str),V.ref tb)])) hp0;have e2:upd H1 p (.ins t.C_TableRun dx ([(("width":Str),V.int wd)]++[(("table":Str),V.ref tb)])) p=some (.ins t.C_TableRun dx ([(("width":Str),V.int wd)]++[(("table":Str),V.ref tb)])):=aj;generalize upd H1 p (.ins t.C_TableRun dx ([(("width":Str),V.int wd)]++[(("table":Str),V.ref tb)]))=H2 at s2 e2 ⊢;refine later ?_;simp_arith! [iA];refine zBO wd ins oth ss a b r xs f ws (zAG (hP.same s2) (hW.same s2) hl fun bx H4 s4 hbx gb=>?_);refine fu (s4 _ _ e2) T.c_TableRun.cl T.n_TableRun_boxes Jo ?_;rw [bV Jl];have nbx:bx≠p:=(ao e2 hbx).symm;have fb:=s2.free hbx;have s5:=(s2.trans s4).updM (o:=.ins t.C_TableRun dx ([(("width":Str),V.int wd)]++[(("table":Str),V.ref tb)]++[(("boxes":Str),V.ref bx)])) hp0;have e5:upd H4 p (.ins t.C_TableRun dx ([(("width":Str),V.int wd)]++[(("table":Str),V.ref tb)]++[(("boxes":Str),V.ref bx)])) p=some (.ins t.C_TableRun dx ([(("width":Str),V.int wd)]++[(("table":Str),V.ref tb)]++[(("boxes":Str),V.ref bx)])):=aj;have b5:upd H4 p (.ins t.C_TableRun dx ([(("width":Str),V.int wd)]++[(("table":Str),V.ref tb)]++[(("boxes":Str),V.ref bx)])) bx=some (.dK (aK ins ws (ins++oth))):=by rw [aq nbx];exact gb
 generalize upd H4 p (.ins t.C_TableRun dx ([(("width":Str),V.int wd)]++[(("table":Str),V.ref tb)]++[(("boxes":Str),V.ref bx)]))=H5 at s5 e5 b5 ⊢;refine later ?_;simp_arith! [];intro td htd;have ntd:p≠td:=ao e5 htd;have ft:=s5.free htd;have s6:=Same.upd (o:=.lst []) htd;refine fu (s6 _ _ e5) T.c_TableRun.cl T.n_TableRun_told Jo ?_;rw [bV Jl];refine later ?_;rwa [];refine fu aj T.c_TableRun.cl T.n_TableRun_place Jo ?_;rw [bV Jl];refine q bx td _ ⟨((s5.trans s6).updM hp0).updM hp0,⟨dx,aj⟩,?_,?_,zAB hp0 fb ft⟩
 ·rw [aq nbx,aq nbx];exact s6 _ _ b5
 ·rw [aq ntd.symm,aq ntd.symm];exact aj
theorem vV(T:Txt K mg t):FnOk P w K mg base CX0 4 t.f_41 t.e_41 ["self"] (ma K t.C_TableRun):=by
 have G_19:=@tU P w K mg base t T;have G_16:=@fB P w K mg base t T;have G_20:=@Bt P w K mg base t T;refine T.d_41.F.ok sc_41 ∅ ?_;rintro cdv A outer s H vs Q E hr ⟨p,rfl,H0,tb,bx,td,wd,i,st,F,blk,ns,hR,hT,hF,hS,hG,w1,w8,hl,q⟩;have hu:=cT hr;refine ⟨_,
   (XSs.h
   (ai
    (ay (i:=1) sc_41.nd rfl ll (am aS (aN (yqv 0 vl) rfl) (aN (yqv 0 vl) rfl)))
   (ai
    (ay (i:=2) sc_41.nd rfl ll (bL mE gl T.z_dict boot_dict (aa (aN (yqv 0 vl) rfl) ac)))
   (bA
    (bu PassesOwn.never rfl (b9 (am aw (yqv 1 vl) ae)) (aH (i:=3) sc_41.nd rfl ll)
     (ai
      (ay (i:=4) sc_41.nd rfl ll (ap T.d_19 G_19 hr.m (aa (yqv 3 vl) (aa (aN (yqv 0 vl) rfl) (aa (aN (yqv 0 vl) rfl) ac))) gl))
     (ai
      (ay (i:=5) sc_41.nd rfl ll (ap T.d_16 G_16 hr.m (aa (yqv 3 vl) ac) gl))
     (ak
      (aG (av rE (yqv 5 vl) dc (aA _))
       (ak
        (aY (c5 PySem.F.plainAttrs_list PySem.F.slot_list_append PySem.F.type_list_append ba (aN (yqv 0 vl) rfl) (aa (yqv 4 vl) ac))))
       (ak
        (de hu (yqv 2 vl) (yqv 5 vl) (yqv 4 vl) rfl)))))))
   (ai
    (bR (yqv 0 vl) (ap T.d_20 G_20 hr.m (aa (am aw (yqv 1 vl) ae) (aa (aN (yqv 0 vl) rfl) ac)) gl) rfl)
   (ak
    (bR (yqv 0 vl) (yqv 2 vl) rfl))))))),?_⟩
 rw [show aL _ [V.ref p]=[some (.ref p),none,none,none,none,none] from rfl];simp_arith! [];obtain ⟨dx,e⟩:=hR.ob;obtain ⟨xs,x,hxs,hx,qs,da,ea,vs,rfl,v1,v2,v3,v4⟩:=hT.at hF;refine cn e T.c_TableRun.cl T.n_TableRun_table rfl (cn e T.c_TableRun.cl T.n_TableRun_place rfl ?_);simp_arith! [];refine zAA _ _ (SqL.of (hR.same _ _ hxs)) (bo hx) ?_;refine later ?_;simp_arith! [];refine cn e T.c_TableRun.cl T.n_TableRun_boxes rfl (zAA _ _ rfl (.inl hR.bxs) fun af haf=>?_);have t1:=Same.upd (o:=.dK st.1) haf;have naf:bx≠af:=ao hR.bxs haf;have npf:p≠af:=ao e haf;have ntf:td≠af:=ao hR.tds haf;have hR1:=hR.mv t1;have eaf:upd H af (.dK st.1) af=some (.dK st.1):=aj;have faf:=hR.same.free haf;have e1:=t1 _ _ e;generalize upd H af (.dK st.1)=H1 at t1 hR1 eaf e1 ⊢;refine later ?_;simp_arith! [ku,d3];have lv:=v3.length;have hlen:=hS.len;have few:=hG.few;refine ⟨fun σ H'=>Same H0 H'/\H' p=some (.ins t.C_TableRun dx (rY wd tb bx td (.int i)))/\H' bx=some (.dK st.1)/\H' af=some (.dK (GO.beat wd st.1 blk.ds st).1)/\H' td=some (.lst ((GO.beat wd st.1 blk.ds st).2.map V.int))/\∃o3 o4 o5,σ=[some (.ref p),some (.ref qs),some (.ref af),o3,o4,o5],?_,?_⟩
 ·refine zAA _ _ (hR1.same.seqT v1) rfl (zAC _ rfl ⟨_,SqL.of (hR1.same _ _ v2)⟩ ?_);refine cA (xs:=vs) (fun j σ H'=>Same H0 H'/\H' p=some (.ins t.C_TableRun dx (rY wd tb bx td (.int i)))/\H' bx=some (.dK st.1)/\BxG ns wd (GO.beat wd st.1 (blk.ds.take j) st).1/\H' af=some (.dK (GO.beat wd st.1 (blk.ds.take j) st).1)/\H' td=some (.lst ((GO.beat wd st.1 (blk.ds.take j) st).2.map V.int))/\∃o3 o4 o5,σ=[some (.ref p),some (.ref qs),some (.ref af),o3,o4,o5])
   (zAT hR1.same e1 hR1.bxs hG eaf hR1.tds (zAK _ _ _ rfl)) (fun j σ H' _ h=>SqL.of (h.1 _ _ v2)) ?_ ?_
  ·rintro j y σ H2 hy ⟨s2,ep,eb,gb,ef,et,o3,o4,o5,rfl⟩;obtain ⟨d,hd,q0,rfl,hq0,hf⟩:=Paired.get v3 hy;have hgd:=hS.gd d (zq4 hd);have hl2:=GO.eQ (w:=wd) (b0:=st.1) (ds:=blk.ds.take j) (s:=st);have lt:(blk.ds.take j).length<=blk.ds.length:=by rw [dE];exact Cs ..
   have few2:=gb.few;rwa [ku,d3];refine cn ep T.c_TableRun.cl T.n_TableRun_boxes rfl (cn ep T.c_TableRun.cl T.n_TableRun_width rfl ?_);rw [ku];refine zAK d st.1 ns (zBC (s2.seqT hq0) eb hG hf hgd w1 w8 fun H3 s3=>?_);have s23:=s2.trans s3;refine zAC d (s23.seqT hq0) hf ?_;rw [GO.eS hd];have gb3:=GO.BxG.atB hG gb hgd w1
   cases d with
   |tell o=>
    refine aF (fun _=>cn (s3 _ _ ep) T.c_TableRun.cl T.n_TableRun_told rfl ⟨.inl ⟨rfl,_,SqL.of (s3 _ _ et)⟩,zAL td _ _ rfl rfl (s3 _ _ et) (by rw [zq1,sizeLine_eq];omega) ?_⟩) (fun z=>absurd rfl z);have npt:p≠td:=bN (s3 _ _ ep) (s3 _ _ et) (by intro z;cases z);have nbt:bx≠td:=bN (s3 _ _ eb) (s3 _ _ et) (by intro z;cases z);refine zAT (s23.updM hR.fr.2.2) (by rw [aq npt];exact s3 _ _ ep) (by rw [aq nbt];exact s3 _ _ eb) gb3 (by rw [aq ntf.symm];exact s3 _ _ ef) ?_ (zAK _ _ _ rfl);show upd H3 td _ td=some (.lst (List.map V.int ((GO.beat wd st.1 (blk.ds.take j) st).2++[cY st.1 wd (.tell o)])));rw [aj,cS];rfl
   |copy n o=>
    refine aF (fun z=>absurd z (by intro z;cases z)) (fun _=>zn _ (DPut.k (k:=.inr n) (s3 _ _ ef) (by rw [sizeLine_eq];omega)) ?_);exact zAT (s23.updM faf) (by rw [aq npf];exact s3 _ _ ep) (by rw [aq naf];exact s3 _ _ eb) gb3 aj (by rw [aq ntf];exact s3 _ _ et) (zAK _ _ _ rfl)
   |op g n o o2=>refine aF (fun z=>absurd z (by intro z;cases z)) (fun _=>zn _ (DPut.k (k:=.inr n) (s3 _ _ ef) (by rw [sizeLine_eq];omega)) ?_);exact zAT (s23.updM faf) (by rw [aq npf];exact s3 _ _ ep) (by rw [aq naf];exact s3 _ _ eb) gb3 aj (by rw [aq ntf];exact s3 _ _ et) (zAK _ _ _ rfl)
  ·rintro σ H2 ⟨s2,ep,eb,gb,ef,et,o3,o4,o5,rfl⟩;rw [lv,eO] at ef et;exact zAQ s2 ep eb ef et (zAK _ _ _ rfl)
 rintro σ H2 ⟨s2,ep,eb,ef,et,o3,o4,o5,rfl⟩;refine later ?_;simp_arith! [z9];refine zAA _ _ (s2.seqT v1) rfl ?_;refine cn ep T.c_TableRun.cl T.n_TableRun_boxes rfl ?_;rw [z9];refine zAN blk.ed st.1 ns wd (s2.seqT v4) eb hG hS.nm ?_;refine fu ep T.c_TableRun.cl T.n_TableRun_place (by simp [rY]) ?_;refine later ?_;rwa [];refine fu aj T.c_TableRun.cl T.n_TableRun_boxes (Cw (pH _) (show 5+1<1000 by decide)) ?_;have npt:p≠td:=bN ep et (by intro z;cases z);have npf2:p≠af:=bN ep ef (by intro z;cases z);refine q af _ ⟨(s2.updM hR.fr.1).updM hR.fr.1,⟨dx,?_⟩,?_,?_,zAB hR.fr.1 faf hR.fr.2.2⟩
 ·rw [aj];have:di "boxes" (V.ref af) (di "place" (kg st.1 blk.ed) (rY wd tb bx td (.int i)))=rY wd tb af td (kg st.1 blk.ed):=by
   unfold rY
   kernel_rfl
  rw [this]
 ·rw [aq npf2.symm,aq npf2.symm];exact ef
 ·rw [aq npt.symm,aq npt.symm];exact et
variable {b:Bx}
structure x9(ns:List Str)(wd:Int)(F:List FZ.Blk):Prop where
 st:∀b∈F,StG ns wd b
 tg:∀b∈F,∀j∈b.ed.tg,j<F.length
 pos:0<F.length
def lE(K:W.Frag)(C:Addr)(pp tb c:Addr)(m:Int)(H:Hp)(Q:VK):Prop:=∃(wd:Int)(ins oth:List Str)(ss:List Stm)(a b r:Addr)(xs:List V)(f:List Addr)(ws:Bx)(F:List FZ.Blk),ProgAt K C H pp wd ins oth ss a b r xs f/\WordsIn H c ws ins wd/\1<=wd/\wd<=8/\(ins++oth).length<=1000/\TabV K H tb F/\x9 (ins++oth) wd F/\m<=2100/\
 ∀p td bx H',Same H H'->H td=none->H bx=none->H' p=some (.tup [.ref td,.ref bx,.bl (GO.cB F wd m.toNat 0 (aK ins ws (ins++oth),[])).2])->H' td=some (.lst ((GO.cB F wd m.toNat 0 (aK ins ws (ins++oth),[])).1.2.map V.int))->H' bx=some (.dK (GO.cB F wd m.toNat 0 (aK ins ws (ins++oth),[])).1.1)->Q (.ref p) H'
def me(K:W.Frag)(C:Addr):Sp:=fun vs H Q _=>∃(pp tb c:Addr)(m:Int),vs=[.ref pp,.ref tb,.ref c,.int m]/\lE K C pp tb c m H Q
theorem CB{e:FZ.Ed}{j:Nat}(h:GA.nxt b e=some j):j∈e.tg:=by
 cases e with
 |stop=>cases h
 |go i=>cases h;exact zq2.mpr rfl
 |choose n x y=>
  unfold GA.nxt at h
  cases h
  show (if aJ b n≠0 then x else y)∈[x,y]
  split<;>simp
theorem y9{e:FZ.Ed}(h:GA.nxt b e=none):kg b e=.non:=by unfold kg;rw [h]
theorem y8{e:FZ.Ed}{j:Nat}(h:GA.nxt b e=some j):kg b e=.int j:=by unfold kg;rw [h]
theorem zd{C pp tb c:Addr}{m:Int}{H:Hp}{Q:VK}{E:XK}:me K C [.ref pp,.ref tb,.ref c,.int m] H Q E=lE K C pp tb c m H Q:=propext ⟨by rintro ⟨_,_,_,_,e,q⟩;cases e;exact q,fun q=>zAP _ _ _ _ rfl q⟩
theorem vX(T:Txt K mg t):FnOk P w K mg base CX0 6 t.f_42 t.e_42 ["program","table","words","most"] (me K t.C_Program):=by
 have G_40:=@yq P w K mg base t T;have G_41:=@vV P w K mg base t T;refine T.d_42.F.ok sc_42 ∅ ?_;rintro cdv A outer s H vs Q E hr ⟨pp,tb,c,m,rfl,wd,ins,oth,ss,a,b,r,xs,f,ws,F,hP,hW,w1,w8,hl,hT,hF,hm,q⟩;refine ⟨_,
   (XSs.h
   (ai
    (ay (i:=4) sc_42.nd rfl ll (gH T.c_TableRun T.d_40 G_40 hr.m (aa (yqv 0 vl) (aa (yqv 1 vl) (aa (yqv 2 vl) ac))) gl))
   (ai
    (ay (i:=5) sc_42.nd rfl ll ae)
   (ai
    (fm PassesOwn.never (bP (dR (av dg (yqv 5 vl) (yqv 3 vl) (aA _)) (df (av ix (aN (yqv 4 vl) rfl) dc (aA _)))))
     (ai
      (aY (dw T.c_TableRun.cl T.d_41 G_41 hr.m (yqv 4 vl)))
     (ak
      (ay (i:=5) sc_42.nd rfl ll (ax bw (yqv 5 vl) ae)))))
   (ak
    (au (aP (aa (aN (yqv 4 vl) rfl) (aa (aN (yqv 4 vl) rfl) (aa (aW rE (aN (yqv 4 vl) rfl) dc (aA _)) ac)))))))))),?_⟩
 rw [show aL _ [V.ref pp,V.ref tb,V.ref c,V.int m]=[some (.ref pp),some (.ref tb),some (.ref c),some (.int m),none,none] from rfl];rwa [ul,kq];intro p dx hp hdx hne;have s1:Same H (upd (upd H dx (.own p)) p (.ins t.C_TableRun dx [])):=(Same.upd hdx).updM hp;simp only [ul];refine ⟨H,dx,wd,ins,oth,ss,a,b,r,xs,f,ws,s1,hp,aj,hP,hW,hl,fun bx td H1 hR=>⟨rfl,?_⟩⟩;obtain ⟨st0,est⟩:∃st0:GA.BT,st0=(aK ins ws (ins++oth),[]):=⟨_,rfl⟩
 have hb0:BxG (ins++oth) wd st0.1:=by rw [est];exact je hW.get hl
 have hst:st0.2.length<=60 * 0:=by rw [est];exact zq0 _
 rw [<- est] at hR q;generalize hRR:GO.cB F wd m.toNat 0 st0=R at q;refine j5 (fun σ H'=>∃(k:Nat)(bx:Addr)(s:GA.BT)(pl:V),(k:Int)<=max m 0/\TRunH t.C_TableRun H H' p tb bx td wd pl s/\BxG (ins++oth) wd s.1/\s.2.length<=60 * k/\((∃i:Nat,pl=.int i/\i<F.length/\R=GO.cB F wd (m.toNat-k) i s)\/(pl=.non/\R=(s,true)))/\σ=[some (.ref pp),some (.ref tb),some (.ref c),some (.int m),some (.ref p),some (.int k)])
  (fun (σ:L2.St) H'=>match (σ[5]?).join with | some (V.int i)=>(m-i).toNat | _=>0) (zAX 0 bx _ _ Jn hR hb0 hst (.inl (zAC 0 rfl hF.pos hRR.symm)) rfl) ?_
 rintro σ H2 ⟨k,bx2,s2,pl,hk,hR2,hG2,hl2,hpl,rfl⟩;rwa [kq];have fin:R=(s2,decide (pl=.non))->gW K (V.ref p) "told" H2 fun x H1=>gW K (V.ref p) "boxes" H1 fun x_1 H1=>gW K (V.ref p) "place" H1 fun x_2 H1=>∀(p:Addr),H1 p=none->Q (V.ref p) (upd H1 p (HO.tup [x,x_1,V.bl (decide (x_2=.non))])):=by intro he;obtain ⟨dx3,e3⟩:=hR2.ob;refine cn e3 T.c_TableRun.cl T.n_TableRun_told rfl (cn e3 T.c_TableRun.cl T.n_TableRun_boxes rfl (cn e3 T.c_TableRun.cl T.n_TableRun_place rfl fun u hu=>?_));have s5:=Same.upd (o:=.tup [V.ref td,V.ref bx2,V.bl (decide (pl=.non))]) hu;rw [he] at q;exact q u td bx2 _ (hR2.same.trans s5) hR2.fr.2.2 hR2.fr.2.1 aj (s5 _ _ hR2.tds) (s5 _ _ hR2.bxs)
 have mint:∀i:Nat,decide (V.int i=V.non)=false:=fun i=>rfl;refine aF (fun h1=>?_) (fun h1=>?_)
 ·obtain ⟨dx2,e2⟩:=hR2.ob;refine cn e2 T.c_TableRun.cl T.n_TableRun_place rfl ?_;rcases hpl with ⟨i,rfl,hi,eR⟩ | ⟨rfl,eR⟩
  ·rw [mint];rwa [kq];obtain ⟨blk,hblk⟩:∃blk,F[i]?=some blk:=⟨_,zq8 hi⟩
   have hmem:=zq4 hblk;have hsg:=hF.st blk hmem;rw [show m.toNat-k=m.toNat-(k+1)+1 by omega,GO.fj hblk] at eR;obtain ⟨hG3,_⟩:=GO.BxG.beat hG2 w1 hG2 hsg.gd;have hl3:=GO.eQ (w:=wd) (b0:=s2.1) (ds:=blk.ds) (s:=s2);have hsl:=hsg.len;rw [if_pos trivial];refine ⟨fun σ' H'=>∃(bx:Addr),TRunH t.C_TableRun H H' p tb bx td wd (kg s2.1 blk.ed) (GO.beat wd s2.1 blk.ds s2)/\σ'=[some (V.ref pp),some (V.ref tb),some (V.ref c),some (V.int m),some (V.ref p),some (V.int (k+1))],?_,?_⟩
   ·rintro σ' H' ⟨bx',hRj,rfl⟩;refine zAC _ ?_ rfl (zAX (k+1) bx' _ _ Jn hRj hG3 Jn ?_ rfl)
    ·show (m-((k:Int)+1)).toNat<(m-(k:Int)).toNat;omega
    ·unfold GO.tR at eR
     cases e:GA.nxt s2.1 blk.ed with
     |none=>
      rw [e] at eR;exact .inr ⟨y9 e,eR⟩
     |some j=>rw [e] at eR;exact .inl (zAC j (y8 e) (hF.tg blk hmem j (CB e)) eR)
   ·exact bB e2 rfl (zBO H tb bx2 td wd i s2 F blk (ins++oth) (zBB hR2 hT hblk hsg hG2 w1 w8 Jn fun bx' H4 hR4=>zn bx' hR4 rfl))
  ·rw [decide_eq_true rfl,if_neg Jm];exact fin eR
 ·refine fin ?_;rcases hpl with ⟨i,rfl,hi,eR⟩ | ⟨rfl,eR⟩
  ·rw [show m.toNat-k=0 by omega] at eR;exact eR
  ·exact eR
def nX(op:Str)(x y w:Int)(H:Hp)(Q:VK):Prop:=op∈FB.opsL/\0<=w/\w<=8/\∀H',Same H H'->Q (.int (ky op x y w)) H'
def qa:Sp:=fun vs H Q _=>∃(op:Str)(x y w:Int),vs=[.str op,.int x,.int y,.int w]/\nX op x y w H Q
def xk(K:W.Frag)(q:Addr)(bx:Addr)(td:Addr)(w:Int)(H:Hp)(Q:VK):Prop:=∃(d:Deed)(b:Bx)(ns:List Str)(tl:List Int),SqT K H q d.vs/\d.fine/\Deed.good ns w d/\H bx=some (.dK b)/\BxG ns w b/\H td=some (.lst (tl.map V.int))/\tl.length<=100000/\1<=w/\w<=8/\
 ∀H',SameB bx td H H'->H' bx=some (.dK (doB w d b))->H' td=some (.lst ((doT w d b tl).map V.int))->Q .non H'
def zB(K:W.Frag):Sp:=fun vs H Q _=>∃(q:Addr)(bx:Addr)(td:Addr)(w:Int),vs=[.ref q,.ref bx,.ref bx,.ref td,.int w]/\xk K q bx td w H Q
theorem uj{op:Str}{x y w:Int}{H:Hp}{Q:VK}{E:XK}:qa [.str op,.int x,.int y,.int w] H Q E=nX op x y w H Q:=propext ⟨by rintro ⟨_,_,_,_,e,q⟩;cases e;exact q,fun q=>zAP _ _ _ _ rfl q⟩
theorem gQ{q bx td:Addr}{w:Int}{H:Hp}{Q:VK}{E:XK}:zB K [.ref q,.ref bx,.ref bx,.ref td,.int w] H Q E=xk K q bx td w H Q:=propext ⟨by rintro ⟨_,_,_,_,e,q⟩;cases e;exact q,fun q=>zAP _ _ _ _ rfl q⟩
theorem pA(T:Txt K mg t):FnOk P w K mg base CX0 1 t.f_53 t.e_53 ["_law_op","_law_x","_law_y","_law_width"] qa:=by
 refine T.d_53.F.ok Ia ∅ ?_;rintro cdv A outer s H vs Q E hr ⟨op,x,y,w,rfl,ho,h0,h8,q⟩;refine ⟨_,
   (XSs.h
   (ai
    (aG (av aR (yqv 0 vl) aI (aA _))
     (ak
      (au (ax aU (ax bw (yqv 1 vl) (yqv 2 vl)) (ax fK ae (yqv 3 vl)))))
     aC)
   (ai
    (aG (av aR (yqv 0 vl) aI (aA _))
     (ak
      (au (ax aU (ax cP (yqv 1 vl) (yqv 2 vl)) (ax fK ae (yqv 3 vl)))))
     aC)
   (ai
    (aG (av aR (yqv 0 vl) aI (aA _))
     (ak
      (au (bL dq gl T.z_int boot_int (aa (aW dg (yqv 1 vl) (yqv 2 vl) (aA _)) ac))))
     aC)
   (ai
    (aG (av aR (yqv 0 vl) aI (aA _))
     (ak
      (au (bL dq gl T.z_int boot_int (aa (aW aR (yqv 1 vl) (yqv 2 vl) (aA _)) ac))))
     aC)
   (ak
    (au (am aS (aT (aa (am aS (aT (aa (ax uU (yqv 1 vl) (yqv 2 vl)) (aa (ax Aa (yqv 1 vl) (yqv 2 vl)) ac))) (bL dq gl T.z_int boot_int (aa (aW aR (yqv 0 vl) aI (aA _)) ac))) (aa (ax uW (yqv 1 vl) (yqv 2 vl)) ac))) (bL dq gl T.z_int boot_int (aa (aW aR (yqv 0 vl) aI (aA _)) ac)))))))))),?_⟩
 rw [show aL _ [V.str op,V.int x,V.int y,V.int w]=[some (.str op),some (.int x),some (.int y),some (.int w)] from rfl];rwa [];have z:op="plus"\/op="less"\/op="and"\/op="or"\/op="xor"\/op="below"\/op="same":=by simpa [FB.opsL] using ho
 have hp:(0:Int)<1 * 2 ^ w.toNat:=by rw [AJ];exact sD Jm
 have cp:vf 1 w:=zAB h0 Jn Jm
 unfold ky at q;rw [<- AJ (2 ^ w.toNat)] at q;have t2:∀{p1 p2:Addr} {v:V},H p1=none->upd H p1 (.lst [V.int (Builtin.bitAnd x y),V.int (Builtin.bitOr x y)]) p2=none->Same H (upd (upd H p1 (.lst [V.int (Builtin.bitAnd x y),V.int (Builtin.bitOr x y)])) p2 (.lst [v,V.int (Builtin.bitXor x y)])):=fun h1 h2=>(Same.upd h1).trans (Same.upd h2);rcases z with rfl | rfl | rfl | rfl | rfl | rfl | rfl
 ·rw [if_pos rfl] at q;rw [if_pos Jm];exact zAB cp hp (q H (Same.refl H))
 ·rw [if_neg Jk,if_pos rfl] at q;rw [if_neg Jk,if_pos Jm];exact zAB cp hp (q H (Same.refl H))
 ·rw [if_neg Jk,if_neg Jk,if_pos rfl] at q;rw [if_neg Jk,if_neg Jk,if_neg Jk,if_neg Jk];intro p1 hp1;refine zAA _ _ (SqL.of aj) (by rw [if_neg Jk];rfl) fun p2 hp2=>zAA _ _ (SqL.of aj) (by rw [if_neg Jk];rfl) (q _ (t2 hp1 hp2))
 ·rw [if_neg Jk,if_neg Jk,if_neg Jk,if_pos rfl] at q;rw [if_neg Jk,if_neg Jk,if_neg Jk,if_neg Jk];intro p1 hp1;refine zAA _ _ (SqL.of aj) (by rw [if_pos Jm];rfl) fun p2 hp2=>zAA _ _ (SqL.of aj) (by rw [if_neg Jk];rfl) (q _ (t2 hp1 hp2))
 ·rw [if_neg Jk,if_neg Jk,if_neg Jk,if_neg Jk,if_pos rfl] at q;rw [if_neg Jk,if_neg Jk,if_neg Jk,if_neg Jk];intro p1 hp1;refine zAA _ _ (SqL.of aj) (by rw [if_neg Jk];rfl) fun p2 hp2=>zAA _ _ (SqL.of aj) (by rw [if_pos Jm];rfl) (q _ (t2 hp1 hp2))
 ·rw [if_neg Jk,if_neg Jk,if_neg Jk,if_neg Jk,if_neg Jk,if_pos rfl] at q;rw [if_neg Jk,if_neg Jk,if_pos Jm];rw [show (if decide (x<y)=true then (1:Int) else 0)=(if x<y then 1 else 0) by simp];exact q H (Same.refl H)
 ·rw [if_neg Jk,if_neg Jk,if_neg Jk,if_neg Jk,if_neg Jk,if_neg Jk] at q;rw [if_neg Jk,if_neg Jk,if_neg Jk,if_pos Jm];rw [show (if decide (x=y)=true then (1:Int) else 0)=(if x=y then 1 else 0) by simp];exact q H (Same.refl H)
theorem pB(T:Txt K mg t):FnOk P w K mg base CX0 1 t.f_52 t.e_52 ["_law_operand_here","_law_boxes"] (ny K):=by
 refine T.d_52.F.ok I0 ∅ ?_;rintro cdv A outer s H vs Q E hr ⟨o,bx,b,ns,w,rfl,hB,hG,ho,q⟩;have hu:=cT hr;refine ⟨_,
   (XSs.h
   (ai
    (aG (aZ (aB bD gl T.z_isinstance boot_isinstance (aa (yqv 0 vl) (aa (bF (v:=.ty "str") gl T.z_str boot_str rfl) ac))))
     (ak
      (au (cu hu (yqv 1 vl) (yqv 0 vl) (fun _ _=>rfl))))
     aC)
   (ak
    (au (yqv 0 vl))))),?_⟩
 rw [show aL _ [o.v,V.ref bx]=[some o.v,some (.ref bx)] from rfl];rwa [];refine jw (zn _ rfl ?_)
 cases o with
 |box n=>exact zAA bx _ rfl (.inl (zAA b (.inr n) (.inl hB) rfl (hG.val ho).symm)) q
 |word i=>exact q
theorem mW{f:Str}(h:f∈FB.opsL){g:Str}(hg:g∉FB.opsL):¬f=g:=fun z=>hg (z ▸ h)
theorem DI(T:Txt K mg t):FnOk P w K mg base CX0 2 t.f_54 t.e_54 ["_law_deed_here","_law_before","_law_boxes","_law_said","_law_width"] (zB K):=by
 have G_52:=@pB P w K mg base t T;have G_53:=@pA P w K mg base t T;refine T.d_54.F.ok CS ∅ ?_;rintro cdv A outer s H vs Q E hr ⟨qd,bx,td,w,rfl,d,b,ns,tl,hq,hf,hd,hB,hG,hT,hl,w1,w8,q⟩;have hu:=cT hr;refine ⟨_,
   (XSs.h
   (ak
    (aG (av aR (am aw (yqv 0 vl) ae) aI (aA _))
     (ak
      (aY (c5 PySem.F.plainAttrs_list PySem.F.slot_list_append PySem.F.type_list_append ba (yqv 3 vl) (aa (ap T.d_52 G_52 hr.m (aa (am aw (yqv 0 vl) ae) (aa (yqv 1 vl) ac)) gl) ac))))
     (ak
      (aG (av aR (am aw (yqv 0 vl) ae) aI (aA _))
       (ak
        (de hu (yqv 2 vl) (am aw (yqv 0 vl) ae) (ap T.d_52 G_52 hr.m (aa (am aw (yqv 0 vl) ae) (aa (yqv 1 vl) ac)) gl) rfl))
       (ak
        (de hu (yqv 2 vl) (am aw (yqv 0 vl) ae) (ap T.d_53 G_53 hr.m (aa (am aw (yqv 0 vl) ae) (aa (ap T.d_52 G_52 hr.m (aa (am aw (yqv 0 vl) ae) (aa (yqv 1 vl) ac)) gl) (aa (ap T.d_52 G_52 hr.m (aa (am aw (yqv 0 vl) ae) (aa (yqv 1 vl) ac)) gl) (aa (yqv 4 vl) ac)))) gl) rfl))))))),?_⟩
 rw [show aL _ [V.ref qd,V.ref bx,V.ref bx,V.ref td,V.int w]=[some (.ref qd),some (.ref bx),some (.ref bx),some (.ref td),some (.int w)] from rfl];rwa [];have few:=hG.few;have nbt:bx≠td:=bN hB hT (by intro z;cases z)
 cases d with
 |tell o=>
  refine zAA _ _ hq rfl ?_;rwa [];refine aF (fun _=>⟨.inl ⟨rfl,_,SqL.of hT⟩,zAA _ _ hq rfl ?_⟩) (fun e=>absurd trivial e);rwa [fH];refine zAH b ns w hB hG hd (zAC _ hT (by rw [zq1,sizeLine_eq];omega) (q _ SameB.upd2 (by rw [aq nbt];exact hB) ?_));show upd H td _ td=some (.lst (List.map V.int (tl++[eK b o])));rw [aj,cS];rfl
 |copy n o=>
  refine zAA _ _ hq rfl ?_;rwa [];refine aF (fun e=>absurd e Jk) (fun _=>zAA _ _ hq rfl ?_);rwa [];refine aF (fun _=>zAA _ _ hq rfl ?_) (fun e=>absurd trivial e);rwa [fH];refine zAH b ns w hB hG hd.2 ?_;exact zAA _ _ hq rfl (zn _ (DPut.k (k:=.inr n) hB (by rw [sizeLine_eq];omega)) (q _ SameB.upd1 aj (by rw [aq nbt.symm];exact hT)))
 |op f n o o2=>obtain ⟨g1,g2,g3,g4⟩:f∈FB.opsL/\n∈ns/\Opd.good ns w o/\Opd.good ns w o2:=hd;refine zAA _ _ hq rfl ?_;rwa [];refine aF (fun e=>absurd e (mW g1 Jk)) (fun _=>zAA _ _ hq rfl ?_);rwa [];refine aF (fun e=>absurd e (mW g1 Jk)) (fun _=>zAA _ _ hq rfl (zAA _ _ hq rfl ?_));rwa [fH];refine zAH b ns w hB hG g3 (zAA _ _ hq rfl ?_);rwa [fH,uj];refine zBL b ns w hB hG g4 g1 Jn w8 fun H1 s1=>zAA _ _ (s1.seqT hq) rfl (zn _ (DPut.k (k:=.inr n) (s1 _ _ hB) (by rw [sizeLine_eq];omega)) ?_);exact q _ ((SameB.of s1).trans SameB.upd1) aj (by rw [aq nbt.symm];exact s1 _ _ hT)
variable {H H':Hp} {b:Bx} {l:List V} {p r:Addr}
theorem SameB.ts(s:SameB p r H H')(hp:H p=some (.dK b))(hr:H r=some (.lst l)):TSame H H':=
 ⟨fun c xs e=>s c _ e (fun z=>by rw [z,hp] at e;cases e) (fun z=>by rw [z,hr] at e;cases e),fun c o u e=>s c _ e (fun z=>by rw [z,hp] at e;cases e) (fun z=>by rw [z,hr] at e;cases e)⟩
theorem Cb{K:W.Frag}{xs:List V}{ss:List Stm}{f:List Addr}(h:StmsV K H xs ss f)(s:SameB p r H H')(hp:H p=some (.dK b))(hr:H r=some (.lst l))(hf:r∉f):StmsV K H' xs ss f:=
 h.keep (SameB.ts s hp hr) fun a ha o e=>s a o e (fun z=>by obtain ⟨zs,hz⟩:=h.tracked a ha;rw [z,hp] at hz;cases hz) (fun z=>hf (z ▸ ha))
theorem ET{K:W.Frag}{x:V}{st:Stm}{f:List Addr}(h:StmV K H x st f)(s:SameB p r H H')(hp:H p=some (.dK b))(hr:H r=some (.lst l))(hf:r∉f):StmV K H' x st f:=
 h.keep (SameB.ts s hp hr) fun a ha o e=>s a o e (fun z=>by obtain ⟨zs,hz⟩:=h.tracked a ha;rw [z,hp] at hz;cases hz) (fun z=>hf (z ▸ ha))
structure BtV(H:Hp)(bx td:Addr)(ns:List Str)(w:Int)(b:Bx)(t:List Int):Prop where
 hb:H bx=some (.dK b)
 ht:H td=some (.lst (t.map V.int))
 gd:BxG ns w b
def mC(K:W.Frag)(d:Nat)(a bx td:Addr)(w left:Int)(H:Hp)(Q:VK):Prop:=∃(xs:List V)(ss:List Stm)(f:List Addr)(b:Bx)(ns:List Str)(tl:List Int)(n:Nat),left=n/\H a=some (.lst xs)/\StmsV K H xs ss f/\a≠td/\td∉f/\cm ss<d/\bC ns w ss/\BtV H bx td ns w b tl/\tl.length+n<=10000/\1<=w/\w<=8/\
 ∀H',SameB bx td H H'->BtV H' bx td ns w (GA.runL w n ⟨ss,b,tl⟩).2.bx (GA.runL w n ⟨ss,b,tl⟩).2.told->Q (.int (GA.runL w n ⟨ss,b,tl⟩).1) H'
def jC(K:W.Frag)(d:Nat):Sp:=fun vs H Q _=>∃(a bx td:Addr)(w left:Int),vs=[.ref a,.ref bx,.ref td,.int w,.int left]/\mC K d a bx td w left H Q
theorem cH{d:Nat}{a bx td:Addr}{w left:Int}{Q:VK}{E:XK}:jC K d [.ref a,.ref bx,.ref td,.int w,.int left] H Q E=mC K d a bx td w left H Q:=propext ⟨by rintro ⟨_,_,_,_,_,e,q⟩;cases e;exact q,fun q=>zBN _ _ _ _ _ rfl q⟩
theorem Dl{q:Addr}{d:Deed}{k:Str}{Z:V->Hp->Prop}(hf:d.fine)(hq:SqT K H q d.vs)(h1:opsL.contains k=false)(h2:¬("tell":Str)=k) (h3:¬("copy":Str)=k) (h:Z (.bl true) H):∃xs v,SqT K H q xs/\atI xs 0=some v/\rNe v (.str k) H Z:=by
 cases d with
 |tell a=>exact zAE _ _ hq rfl rfl (by rw [decide_eq_false (fun z=>h2 (V.str.inj z))];exact h)
 |copy n a=>exact zAE _ _ hq rfl rfl (by rw [decide_eq_false (fun z=>h3 (V.str.inj z))];exact h)
 |op f n a b=>exact zAE _ _ hq rfl rfl (by rw [decide_eq_false (fun z=>tW hf h1 (V.str.inj z))];exact h)
theorem BtV.get{bx td:Addr}{ns:List Str}{w:Int}{t:List Int}{n:Str}(h:BtV H bx td ns w b t)(hn:n∈ns):DGet H bx (.str n) (some (.int (aJ b n))):=.inl (zAA b (.inr n) (.inl h.hb) rfl (h.gd.val hn).symm)
theorem vP(T:Txt K mg t)(d:Nat)(G_55:FnOk P w K mg base CX0 (d+3) t.f_55 t.e_55 ["_law_rows","_law_boxes","_law_said","_law_width","_law_left"] (jC K d)):FnOk P w K mg base CX0 (d+4) t.f_55 t.e_55 ["_law_rows","_law_boxes","_law_said","_law_width","_law_left"] (jC K (d+1)):=by
 have G_54:=@DI P w K mg base t T;refine T.d_55.F.ok sc_55 ∅ ?_;rintro cdv A outer s H vs Q E hr ⟨a,bx,td,w,left,rfl,xs,ss,f,b0,ns,tl,n,rfl,ha,hx,nat,ntf,hd,hg,hV,hln,w1,w8,q⟩;have hu:=cT hr;refine ⟨_,
   (XSs.h
   (ai
    (bu PassesOwn.never rfl (b9 (yqv 0 vl)) (aH (i:=5) sc_55.nd rfl ll)
     (bA
      (aG (av aR (yqv 4 vl) ae (aA _))
       (ak
        (au (j8 gI ae)))
       aC)
     (ai
      (ay (i:=4) sc_55.nd rfl ll (ax cP (yqv 4 vl) ae))
     (bA
      (aG (av aR (am aw (yqv 5 vl) ae) aI (aA _))
       (ak
        (ay (i:=4) sc_55.nd rfl ll (ap T.d_55 G_55 hr.m (aa (am aw (yqv 5 vl) (ax bw ae (bL dq gl T.z_int boot_int (aa (aW aR (cu hu (yqv 1 vl) (am aw (yqv 5 vl) ae) (fun _ _=>rfl)) ae (aA _)) ac)))) (aa (yqv 1 vl) (aa (yqv 2 vl) (aa (yqv 3 vl) (aa (yqv 4 vl) ac))))) gl)))
       (ak
        (aG (av eF (am aw (yqv 5 vl) ae) aI (aA _))
         (ak
          (aY (ap T.d_54 G_54 hr.m (aa (yqv 5 vl) (aa (yqv 1 vl) (aa (yqv 1 vl) (aa (yqv 2 vl) (aa (yqv 3 vl) ac))))) gl)))
         (ak
          (fm PassesOwn.never (bP (dR (av sv (cu hu (yqv 1 vl) (am aw (yqv 5 vl) ae) (fun _ _=>rfl)) ae (aA _)) (df (av nH (yqv 4 vl) ae (aA _)))))
           (ak
            (ay (i:=4) sc_55.nd rfl ll (ax cP (ap T.d_55 G_55 hr.m (aa (am aw (yqv 5 vl) ae) (aa (yqv 1 vl) (aa (yqv 2 vl) (aa (yqv 3 vl) (aa (yqv 4 vl) ac))))) gl) ae))))))))
     (ak
      (aG (av dg (yqv 4 vl) ae (aA _))
       (ak
        (au (j8 gI ae)))
       aC))))))
   (ak
    (au (yqv 4 vl))))),?_⟩
 rw [show aL _ [V.ref a,V.ref bx,V.ref td,V.int w,V.int n]=[some (.ref a),some (.ref bx),some (.ref td),some (.int w),some (.int n),none] from rfl];rwa [cH,gQ];have lx:=hx.length;have nab:a≠bx:=fun z=>by rw [z,hV.hb] at ha;cases ha
 generalize hR:GA.runL w n ⟨ss,b0,tl⟩=R at q;refine ⟨⟨_,SqL.of ha⟩,?_⟩;refine cA (xs:=xs) (fun i σ H'=>SameB bx td H H'/\∃(m:Nat)(b:Bx)(t:List Int)(o5:Option V),BtV H' bx td ns w b t/\t.length+m<=10000/\R=GA.runL w m ⟨ss.drop i,b,t⟩/\σ=[some (.ref a),some (.ref bx),some (.ref td),some (.int w),some (.int m),o5])
  ⟨SameB.refl,zAR n b0 tl _ hV hln (by rw [uZ,hR]) rfl⟩ (fun i σ H' _ h=>SqL.of (h.1 _ _ ha nab nat)) ?_ ?_
 ·rintro i x σ H1 hxi ⟨s1,m,b,tt,o5,hV1,hl1,eR,rfl⟩;obtain ⟨st,f',hs,hsv,hsub⟩:=hx.get hxi;have hi:i<ss.length:=(zq10.mp hs).1;have hse:ss[i]=st:=(zq10.mp hs).2;have hds:=iS (zq4 hs);have hsg:=oQ hg (zq4 hs);rw [D7 hi,hse] at eR;have ntf':td∉f':=fun z=>ntf (hsub _ z);have hsv1:=ET hsv s1 hV.hb hV.ht ntf';rwa [cH,gQ];refine ⟨fun σ H'=>H'=H1/\∃m':Nat,m=m'+1/\σ=[some (.ref a),some (.ref bx),some (.ref td),some (.int w),some (.int m),some x],?_,?_⟩
  ·refine aF (fun e0=>?_) (fun e0=>⟨rfl,zn (m-1) Jn rfl⟩);have em:m=0:=by omega
   subst em;rw [GA.ff] at eR;rw [eR] at q;exact q H1 s1 hV1
  rintro σ H2 ⟨rfl,m',rfl,rfl⟩;rw [GA.d4] at eR;rwa [cH,gQ];rw [show ((m'+1:Nat):Int)-1=(m':Int) by omega];refine ⟨fun σ H'=>∃(L:Int)(b':Bx)(t':List Int),SameB bx td H2 H'/\BtV H' bx td ns w b' t'/\((∃k:Nat,L=k/\t'.length+k<=10000/\R=GA.runL w k ⟨ss.drop (i+1),b',t'⟩)\/(L<0/\R.1=-1/\R.2.bx=b'/\R.2.told=t'))/\σ=[some (.ref a),some (.ref bx),some (.ref td),some (.int w),some (.int L),some x],?_,?_⟩
  ·cases hsv1 with
   | @deed q0 dd hf hq=>
    rwa [cH,gQ];refine jT hf hq Jk Jk Jk (zn _ rfl ?_);rw [if_neg zq6];refine Dl hf hq Jk Jk Jk (zn _ rfl ?_);rw [if_pos rfl];have hl:=GA.mH (w:=w) (d:=dd) (b:=b) (t:=tt);refine zBJ dd b ns tt (zBR hq hf hsg hV1.hb hV1.gd hV1.ht Jn w1 w8 fun H3 s3 e1 e2=>?_);exact zAH m' _ _ s3 ⟨e1,e2,hV1.gd.doB hsg w1⟩ (.inl (zAC m' rfl Jn eR)) rfl
   | @ifs q0 a1 c1 nm xs1 ys1 ones others f1 g1 hq ha1 hc1 h1 h2=>
    rwa [cH,gQ];refine zAA _ _ hq rfl ?_;rwa [cH,gQ];obtain ⟨gn,g1',g2'⟩:nm∈ns/\bC ns w ones/\bC ns w others:=hsg;simp only [Stm.deep] at hds;refine aF (fun _=>zAA _ _ hq rfl (zAA bx _ rfl (hV1.get gn) ?_)) (fun z=>absurd trivial z);rwa [cH,gQ];have na1:a1≠td:=fun z=>ntf' (by rw [<- z];simp);have nc1:c1≠td:=fun z=>ntf' (by rw [<- z];simp);have nf1:td∉f1:=fun z=>ntf' (by simp [z]);have ng1:td∉g1:=fun z=>ntf' (by simp [z]);have key:∀(ad:Addr)(xs':List V)(l:List Stm)(fl:List Addr),H2 ad=some (.lst xs')->StmsV K H2 xs' l fl->ad≠td->td∉fl->cm l<d->bC ns w l->(if aJ b nm≠0 then ones else others)=l->mC K d ad bx td w m' H2 fun x H1=>∃(L:Int)(b':Bx)(t':List Int),SameB bx td H2 H1/\BtV H1 bx td ns w b' t'/\((∃k:Nat,L=k/\t'.length+k<=10000/\R=GA.runL w k ⟨ss.drop (i+1),b',t'⟩)\/(L<0/\R.1=-1/\R.2.bx=b'/\R.2.told=t'))/\[some (V.ref a),some (V.ref bx),some (V.ref td),some (V.int w),some x,some (V.ref q0)]=[some (V.ref a),some (V.ref bx),some (V.ref td),some (V.int w),some (V.int L),some (V.ref q0)]:=by
     intro ad xs' l fl k1 k2 k3 k4 k5 k6 k7;have eR':R=GA.runL w m' ⟨l++ss.drop (i+1),b,tt⟩:=by rw [<- k7];exact eR
     have hG:=GA.GSt.runL w1 (n:=m') (s:=⟨l,b,tt⟩) ⟨hV1.gd,k6⟩;have hle:=GA.nj (w:=w) (n:=m') (s:=⟨l,b,tt⟩);refine zAY xs' l fl b ns tt m' (zBE rfl k1 k2 k3 k4 k5 k6 hV1 Jn w1 w8 fun H3 s3 hV3=>zAH _ _ _ s3 hV3 ?_ rfl);have happ:=GA.kz (w:=w) (r:=ss.drop (i+1)) (n:=m') (l:=l) (b:=b) (t:=tt);have hlt:∀k:Nat,(GA.runL w m' ⟨l,b,tt⟩).1=k->(GA.runL w m' ⟨l,b,tt⟩).2.told.length+k<=tt.length+m':=fun k hk=>GA.iX hk;rcases happ with ⟨k,h3,h4⟩ | ⟨h3,h4⟩
     ·exact .inl (zAC k h3 (by have:=hlt k h3;omega) (by rw [eR',h4]))
     ·rw [h4] at eR';rw [eR',h3];exact .inr (zAG Jm rfl rfl rfl)
    by_cases e0:aJ b nm=0
    ·rw [if_pos (by simpa using e0)];refine zAA _ _ hq rfl ?_;rw [cH];exact key c1 ys1 others g1 hc1 h2 nc1 ng1 Jn g2' (by rw [if_neg (by simpa using e0)])
    ·rw [if_neg (by simpa using e0)];refine zAA _ _ hq rfl ?_;rw [cH];exact key a1 xs1 ones f1 ha1 h1 na1 nf1 Jn g1' (by rw [if_pos e0])
   | @whl q0 a1 nm xs1 rows f1 hq ha1 h1=>
    rwa [cH,gQ];refine zAA _ _ hq rfl ?_;rwa [cH,gQ];refine aF (fun z=>absurd z Jk) (fun _=>zAA _ _ hq rfl ?_);rwa [cH,gQ];rw [if_neg Jm];obtain ⟨gn,g1'⟩:nm∈ns/\bC ns w rows:=hsg;simp only [Stm.deep] at hds;have na1:a1≠td:=fun z=>ntf' (by rw [<- z];simp);have nb1:a1≠bx:=fun z=>by rw [z,hV1.hb] at ha1;cases ha1
    have nf1:td∉f1:=fun z=>ntf' (by simp [z]);refine j5 (fun σ H'=>∃(L:Int)(b':Bx)(t':List Int),SameB bx td H2 H'/\BtV H' bx td ns w b' t'/\((∃k:Nat,L=k/\t'.length+k<=10000/\R=GA.runL w k ⟨if aJ b' nm≠0 then rows++.whl nm rows::ss.drop (i+1) else ss.drop (i+1),b',t'⟩)\/(L<0/\R.1=-1/\R.2.bx=b'/\R.2.told=t'))/\σ=[some (.ref a),some (.ref bx),some (.ref td),some (.int w),some (.int L),some (.ref q0)])
     (fun (σ:L2.St) (_:Hp)=>match σ[4]? with | some (some (V.int L))=>(L+1).toNat | _=>0) (zAH m' b tt SameB.refl hV1 (.inl (zAC m' rfl Jn eR)) rfl) ?_
    rintro σ H3 ⟨L,b',t',s3,hV3,hor,rfl⟩;have hq3:=(SameB.ts s3 hV1.hb hV1.ht).seqT hq;rwa [cH];refine zAA _ _ hq3 rfl (zAA bx _ rfl (hV3.get gn) ?_);rwa [cH];have hb0:=hV3.gd.get gn
    by_cases e0:aJ b' nm=0
    ·rw [if_neg (by simp [e0])];refine zAH L b' t' s3 hV3 ?_ rfl;rcases hor with ⟨k,h3,h4,h5⟩ | h3
     ·rw [if_neg (by simpa using e0)] at h5;exact .inl (zAC k h3 h4 h5)
     ·exact .inr h3
    ·rw [if_pos (by simp;omega)];rcases hor with ⟨k,rfl,h4,h5⟩ | h3
     ·rw [if_pos e0] at h5;rw [if_pos Jo];refine ⟨fun σ' H'=>∃L':Int,L'<k/\∃(b':Bx)(t':List Int),SameB bx td H2 H'/\BtV H' bx td ns w b' t'/\((∃k:Nat,L'=k/\t'.length+k<=10000/\R=GA.runL w k ⟨if aJ b' nm≠0 then rows++.whl nm rows::ss.drop (i+1) else ss.drop (i+1),b',t'⟩)\/(L'<0/\R.1=-1/\R.2.bx=b'/\R.2.told=t'))/\σ'=[some (.ref a),some (.ref bx),some (.ref td),some (.int w),some (.int L'),some (.ref q0)],?_,?_⟩
      ·rintro σ' H' ⟨L',hL,b2,t2,k1,k2,k3,rfl⟩;refine zAC _ ?_ rfl (zAH L' b2 t2 k1 k2 k3 rfl);show (L'+1).toNat<((k:Int)+1).toNat;omega
      ·refine zAA _ _ hq3 rfl ?_;rw [cH];refine zAY xs1 rows f1 b' ns t' k (zBE rfl (s3 _ _ ha1 nb1 na1) (Cb h1 s3 hV1.hb hV1.ht nf1) na1 nf1 Jn g1' hV3 Jn w1 w8 fun H4 s4 hV4=>?_);rwa [];have happ:=GA.kz (w:=w) (r:=.whl nm rows::ss.drop (i+1)) (n:=k) (l:=rows) (b:=b') (t:=t');have hle:=GA.nj (w:=w) (n:=k) (s:=⟨rows,b',t'⟩);have hlt:∀j:Nat,(GA.runL w k ⟨rows,b',t'⟩).1=j->(GA.runL w k ⟨rows,b',t'⟩).2.told.length+j<=t'.length+k:=fun j hj=>GA.iX hj;refine zn _ Jn (zAE _ _ (s3.trans s4) hV4 ?_ rfl);rcases happ with ⟨j,h6,h7⟩ | ⟨h6,h7⟩
       ·have hj:=hlt j h6;rw [h7] at h5;rw [h6]
        cases j with
        |zero=>
         rw [GA.ff] at h5;rw [h5];exact .inr (zAG Jm rfl rfl rfl)
        |succ j=>rw [GA.d4] at h5;exact .inl (zAC j Jn Jn h5)
       ·rw [h7] at h5;rw [h5,h6];exact .inr (zAG Jm rfl rfl rfl)
     ·rw [if_neg (by simpa using h3.1)];exact zAH L b' t' s3 hV3 (.inr h3) rfl
  rintro σ H3 ⟨L,b',t',s3,hV3,hor,rfl⟩;rwa [];have s03:=s1.trans s3;rcases hor with ⟨k,rfl,hk,e3⟩ | ⟨h1,h2,h3,h4⟩
  ·rw [if_neg Jo];exact ⟨s03,zAR k b' t' _ hV3 hk e3 rfl⟩
  ·rw [if_pos (by simpa using h1)];rw [<- h3,<- h4] at hV3;rw [h2] at q;exact q H3 s03 hV3
 ·rintro σ H1 ⟨s1,m,b,tt,o5,hV1,hl1,eR,rfl⟩;rw [lx,AM,GA.fc] at eR;rwa [];rw [eR] at q;exact q H1 s1 hV1
theorem tT(T:Txt K mg t):∀d,FnOk P w K mg base CX0 (d+3) t.f_55 t.e_55 ["_law_rows","_law_boxes","_law_said","_law_width","_law_left"] (jC K d)
 |0=>⟨fun vs H Q E h=>by obtain ⟨_,_,_,_,_,_,_,_,_,_,_,_,_,_,_,_,_,_,h,_⟩:=h;omega,fun _ _ _ _ _ _ _ _ _ _ _ _ _ h=>by obtain ⟨_,_,_,_,_,_,_,_,_,_,_,_,_,_,_,_,_,_,h,_⟩:=h;omega⟩
 |d+1=>vP T d (tT T d)
variable {H:Hp} {c:Addr} {ws:Bx}
structure WdsV(H:Hp)(c:Addr)(ws:Bx)(ins:List Str)(w:Int):Prop where
 hd:H c=some (.dK ws)
 isI:IntD ws
 has:∀n∈ins,∃x,j6 ws n=some x/\0<=x/\x<2 ^ w.toNat
 no:∀n,n∉ins->j6 ws n=none
theorem WdsV.same{H':Hp}{ins:List Str}{w:Int}(h:WdsV H c ws ins w)(s:Same H H'):WdsV H' c ws ins w:=⟨s _ _ h.hd,h.isI,h.has,h.no⟩
theorem WdsV.get{ins:List Str}{w:Int}(h:WdsV H c ws ins w):∀n∈ins,0<=aJ ws n/\aJ ws n<2 ^ w.toNat:=fun n hn=>by obtain ⟨x,e,h0,h1⟩:=h.has n hn;unfold aJ;rw [e];exact ⟨h0,h1⟩
theorem WdsV.first{ins:List Str}{w:Int}(h:WdsV H c ws ins w){ns:List Str}(hl:ns.length<=1000):BxG ns w (aK ins ws ns):=by obtain ⟨h1,h2,h3⟩:=gk h.get _ ns rfl;exact ⟨h1,Jn,h3⟩
theorem IntD.getD{kvs:List (Key×V)}(h:IntD kvs){n:Str}:(bI kvs (.inr n)).getD (.int 0)=.int (aJ kvs n):=by
 unfold aJ j6
 cases e:bI kvs (.inr n) with
 |none=>rfl
 |some v=>have e':=e;unfold bI at e';obtain ⟨kv,h1,rfl⟩:=zq27.mp e';obtain ⟨i,hi⟩:=h.nums kv (uX h1);rw [hi];rfl
def nS(K:W.Frag)(q c:Addr)(H:Hp)(Q:VK):Prop:=∃(wd:Int)(ins oth:List Str)(pr:Addr)(ws:Bx),DrN K H q wd ins oth pr/\WdsV H c ws ins wd/\
 ∀l H',Same H H'->H l=none->H' l=some (.dK (aK ins ws (ins++oth)))->Q (.ref l) H'
def pU(K:W.Frag):Sp:=fun vs H Q _=>∃q c:Addr,vs=[.ref q,.ref c]/\nS K q c H Q
theorem ue{q:Addr}{Q:VK}{E:XK}:pU K [.ref q,.ref c] H Q E=nS K q c H Q:=propext ⟨by rintro ⟨_,_,e,q⟩;cases e;exact q,fun q=>zAD _ _ rfl q⟩
theorem pw(T:Txt K mg t):FnOk P w K mg base CX0 1 t.f_56 t.e_56 ["_law_drawn_here","_law_words_here"] (pU K):=by
 refine T.d_56.F.ok sc_56 ∅ ?_;rintro cdv A outer s H vs Q E hr ⟨p,c,rfl,wd,ins,oth,pr,ws,hD,hW,q⟩;have hu:=cT hr;refine ⟨_,
   (XSs.h
   (ai
    (ay (i:=2) sc_56.nd rfl ll j7)
   (ai
    (bu PassesOwn.never rfl (b9 (ax hZ (am aw (yqv 0 vl) ae) (am aw (yqv 0 vl) ae))) (aH (i:=3) sc_56.nd rfl ll)
     (ak
      (de hu (yqv 2 vl) (yqv 3 vl) (wW hu (yqv 1 vl) (yqv 3 vl) ae ⟨rfl,rfl,rfl,rfl⟩) rfl)))
   (ak
    (au (yqv 2 vl)))))),?_⟩
 rw [show aL _ [V.ref p,V.ref c]=[some (.ref p),some (.ref c),none,none] from rfl];rwa [];intro l hl0;have s1:Same H (upd H l (.dK [])):=Same.upd hl0;obtain ⟨pi,po,hq,hi,ho⟩:=hD.ex;have hfew:=hD.few;rw [zq3] at hfew;refine zAA _ _ (s1.seqT hq) rfl (zAA _ _ (s1.seqT hq) rfl (zAX pi po _ _ rfl rfl (s1 _ _ hi) (s1 _ _ ho) (by rw [zq1,zq1,sizeLine_eq];omega) fun pn hpn=>?_));have t1:=Same.upd (o:=.lst (ins.map V.str++oth.map V.str)) hpn;have en:upd (upd H l (.dK [])) pn (.lst (ins.map V.str++oth.map V.str)) pn=some (.lst ((ins++oth).map V.str)):=by rw [aj,cS]
 have el:upd (upd H l (.dK [])) pn (.lst (ins.map V.str++oth.map V.str)) l=some (.dK []):=t1 _ _ aj;have npl:pn≠l:=fun z=>by rw [z,aj] at hpn;cases hpn
 generalize upd (upd H l (.dK [])) pn _=H1 at t1 en el ⊢;have s01:=s1.trans t1;refine zAC pn rfl ⟨_,SqL.of en⟩ ?_;refine cA (xs:=(ins++oth).map V.str) (fun i σ H'=>Same H H'/\H' pn=some (.lst ((ins++oth).map V.str))/\H' l=some (.dK (aK ins ws ((ins++oth).take i)))/\∃o,σ=[some (.ref p),some (.ref c),some (.ref l),o])
  (zAG s01 en el ⟨_,rfl⟩) (fun i σ H' _ h=>SqL.of h.2.1) ?_ ?_
 ·rintro i x σ H' hx ⟨sm,en',hd,o,rfl⟩;rw [cf] at hx;obtain ⟨n,hn,rfl⟩:=zq27.mp hx;obtain ⟨hi,hne⟩:=zq10.mp hn;rwa [];have en:aK ins ws ((ins++oth).take (i+1))=cv (aK ins ws ((ins++oth).take i)) (.inr n) (.int (if n∈ins then aJ ws n else 0)):=by rw [eN hi,hne,eD]
  have eb:(if n∈ins then aJ ws n else 0)=aJ ws n:=by
   split
   ·rfl
   ·next h=>unfold aJ;rw [hW.no n h];rfl
  rw [eb] at en;have lb:(aK ins ws ((ins++oth).take i)).length<sizeLine:=by have:=(gk hW.get _ ((ins++oth).take i) rfl).2.1;rw [dE,zq3] at this;rw [sizeLine_eq];omega
  have hW2:Rd H' c (.dK ws):=.inl (sm _ _ hW.hd);refine ⟨.inl ⟨ws,hW2⟩,zn _ (.inl (zAA ws (.inr n) hW2 rfl rfl)) ?_⟩;rw [IntD.getD hW.isI];refine zBA _ (DPut.k (k:=.inr n) hd lb) (sm.updM hl0) (by rw [aq npl];exact en') ?_ ⟨_,rfl⟩;rw [aj,en]
 ·rintro σ H' ⟨sm,_,hd,o,rfl⟩;rw [zq1,eO] at hd;rwa [];exact q l H' sm hl0 hd
variable {H:Hp} {q:Addr}
theorem DrV.same{K:W.Frag}{H' H2:Hp}{wd:Int}{ins oth:List Str}{ss:List Stm}{pi po pr:Addr}{xs:List V}{g:List Addr}{many:Nat}(h:DrV K H H' q wd ins oth ss pi po pr xs g many)(s:Same H' H2):DrV K H H2 q wd ins oth ss pi po pr xs g many:=
 ⟨s _ _ h.tup,s _ _ h.ia,s _ _ h.oa,s _ _ h.ra,h.st.same s,h.gd,h.dp,h.mn,h.w1,h.w8,h.pos,h.few,h.fr,h.nf⟩
theorem DrV.n{K:W.Frag}{H':Hp}{wd:Int}{ins oth:List Str}{ss:List Stm}{pi po pr:Addr}{xs:List V}{g:List Addr}{many:Nat}(h:DrV K H H' q wd ins oth ss pi po pr xs g many):DrN K H' q wd ins oth pr:=⟨zAA pi po (SqT.of h.tup) h.ia h.oa,h.few,h.w1,h.w8⟩
theorem SameB.out{H1 H2:Hp}{bx td:Addr}(s:Same H H1)(sb:SameB bx td H1 H2)(hb:H bx=none)(ht:H td=none):Same H H2:=fun c o e=>sb c o (s _ _ e) (ao e hb) (ao e ht)
def sS(K:W.Frag)(q c:Addr)(m:Int)(H:Hp)(Q:VK):Prop:=∃(H0:Hp)(wd:Int)(ins oth:List Str)(ss:List Stm)(pi po pr:Addr)(xs:List V)(g:List Addr)(many:Nat)(ws:Bx)(n:Nat),m=n/\n<=3000/\DrV K H0 H q wd ins oth ss pi po pr xs g many/\WdsV H c ws ins wd/\
 ∀p td bx H',Same H H'->H td=none->H bx=none->H' p=some (.tup [.ref td,.ref bx,.int (GA.runL wd n ⟨ss,aK ins ws (ins++oth),[]⟩).1])->BtV H' bx td (ins++oth) wd (GA.runL wd n ⟨ss,aK ins ws (ins++oth),[]⟩).2.bx (GA.runL wd n ⟨ss,aK ins ws (ins++oth),[]⟩).2.told->Q (.ref p) H'
def uC(K:W.Frag):Sp:=fun vs H Q _=>∃(q c:Addr)(m:Int),vs=[.ref q,.ref c,.int m]/\sS K q c m H Q
def y7(b:Bx)(e:FZ.Ed):Int:=match GA.nxt b e with
 |none=>-1
 |some j=>(j:Int)
def nY(K:W.Frag)(e bx:Addr)(H:Hp)(Q:VK):Prop:=∃(ed:FZ.Ed)(b:Bx)(ns:List Str)(w:Int),SqT K H e (dG ed)/\H bx=some (.dK b)/\BxG ns w b/\(∀n i j,ed=.choose n i j->n∈ns)/\Q (.int (y7 b ed)) H
def qc(K:W.Frag):Sp:=fun vs H Q _=>∃e bx:Addr,vs=[.ref e,.ref bx]/\nY K e bx H Q
theorem EG{c:Addr}{m:Int}{Q:VK}{E:XK}:uC K [.ref q,.ref c,.int m] H Q E=sS K q c m H Q:=propext ⟨by rintro ⟨_,_,_,e,q⟩;cases e;exact q,fun q=>zAI _ _ _ rfl q⟩
theorem jA{e bx:Addr}{Q:VK}{E:XK}:qc K [.ref e,.ref bx] H Q E=nY K e bx H Q:=propext ⟨by rintro ⟨_,_,e,q⟩;cases e;exact q,fun q=>zAD _ _ rfl q⟩
theorem Bq(T:Txt K mg t):FnOk P w K mg base CX0 8 t.f_57 t.e_57 ["_law_drawn_here","_law_words_here","_law_most"] (uC K):=by
 have G_56:=@pw P w K mg base t T;have G_55:=@tT P w K mg base t T 4;refine T.d_57.F.ok sc_57 ∅ ?_;rintro cdv A outer s H vs Q E hr ⟨p,c,m,rfl,H0,wd,ins,oth,ss,pi,po,pr,xs,g,many,ws,n,rfl,hn,hD,hW,q⟩;refine ⟨_,
   (XSs.h
   (ai
    (ay (i:=3) sc_57.nd rfl ll (ap T.d_56 G_56 hr.m (aa (yqv 0 vl) (aa (yqv 1 vl) ac)) gl))
   (ai
    (ay (i:=4) sc_57.nd rfl ll (aT ac))
   (ai
    (ay (i:=5) sc_57.nd rfl ll (ap T.d_55 G_55 hr.m (aa (am aw (yqv 0 vl) ae) (aa (yqv 3 vl) (aa (yqv 4 vl) (aa (am aw (yqv 0 vl) ae) (aa (yqv 2 vl) ac))))) gl))
   (ak
    (au (aP (aa (yqv 4 vl) (aa (yqv 3 vl) (aa (yqv 5 vl) ac)))))))))),?_⟩
 rw [show aL _ [V.ref p,V.ref c,V.int n]=[some (.ref p),some (.ref c),some (.int n),none,none,none] from rfl];rwa [ue,cH];refine zBK wd ins oth pr ws hD.n hW fun bx H1 s1 hbx0 hbx td htd=>?_;have t1:=Same.upd (o:=.lst []) htd;have s2:=s1.trans t1;have htd0:=s1.free htd;have hfew:=hD.few;have hdp:=hD.dp;refine zAA _ _ (SqT.of (s2 _ _ hD.tup)) rfl (zAA _ _ (SqT.of (s2 _ _ hD.tup)) rfl ?_);rw [cH];refine zAY xs ss g (aK ins ws (ins++oth)) (ins++oth) ([]) n (zBE rfl (s2 _ _ hD.ra) (hD.st.same s2) (ao hD.ra htd0) (fun z=>?_) Jn hD.gd ⟨t1 _ _ hbx,aj,hW.first Jn⟩ (by simp;omega) hD.w1 hD.w8 fun H3 s3 hV3=>?_)
 ·obtain ⟨zs,hz⟩:=hD.st.tracked td z;rw [htd0] at hz;cases hz
 intro pt hpt;have t3:=Same.upd (o:=.tup [V.ref td,V.ref bx,V.int (GA.runL wd n ⟨ss,aK ins ws (ins++oth),[]⟩).1]) hpt;exact q pt td bx _ ((SameB.out s2 s3 hbx0 htd0).trans t3) htd0 hbx0 aj ⟨t3 _ _ hV3.hb,t3 _ _ hV3.ht,hV3.gd⟩
theorem yi(T:Txt K mg t):FnOk P w K mg base CX0 1 t.f_62 t.e_62 ["_law_ending","_law_boxes"] (qc K):=by
 refine T.d_62.F.ok Id ∅ ?_;rintro cdv A outer s H vs Q E hr ⟨e,bx,rfl,ed,b,ns,w,hq,hb,hG,hn,q⟩;have hu:=cT hr;refine ⟨_,
   (XSs.h
   (ai
    (aG (av aR (am aw (yqv 0 vl) ae) aI (aA _))
     (ak
      (au (am aw (yqv 0 vl) ae)))
     aC)
   (ai
    (aG (av aR (am aw (yqv 0 vl) ae) aI (aA _))
     (ak
      (au (am aw (yqv 0 vl) (ax bw ae (bL dq gl T.z_int boot_int (aa (aW aR (cu hu (yqv 1 vl) (am aw (yqv 0 vl) ae) (fun _ _=>rfl)) ae (aA _)) ac))))))
     aC)
   (ak
    (au (j8 gI ae)))))),?_⟩
 rw [show aL _ [V.ref e,V.ref bx]=[some (.ref e),some (.ref bx)] from rfl];rwa []
 cases ed with
 |stop=>
  refine zAA _ _ hq rfl ?_;rwa [];refine aF (fun z=>absurd z Jk) (fun _=>zAE _ _ hq rfl rfl (zn _ rfl ?_));refine aF (fun z=>absurd z Jk) (fun _=>q)
 |go i=>
  refine zAA _ _ hq rfl ?_;rwa [];exact aF (fun _=>zAA _ _ hq rfl q) (fun z=>absurd trivial z)
 |choose n i j=>
  refine zAA _ _ hq rfl ?_;rwa [];refine aF (fun z=>absurd z Jk) (fun _=>zAE _ _ hq rfl rfl (zn _ rfl ?_));refine aF (fun _=>zAA _ _ hq rfl (zAE bx _ rfl (.inl (zAA b (.inr n) (.inl hb) rfl (hG.val (hn n i j rfl)).symm)) rfl (.inr (zn _ rfl ?_)))) (fun z=>absurd rfl z);have e:y7 b (.choose n i j)=if aJ b n=0 then (j:Int) else i:=by
   unfold y7 GA.nxt;dsimp only
   by_cases h:aJ b n=0
   ·rw [if_pos h,if_neg (fun z=>z h)]
   ·rw [if_neg h,if_pos h]
  rw [e] at q
  by_cases h:aJ b n=0
  ·rw [if_pos h] at q;exact zAA _ (.int j) hq (by rw [decide_eq_true (by rw [h])];rfl) q
  ·rw [if_neg h] at q;exact zAA _ (.int i) hq (by rw [decide_eq_false (fun z=>h (V.int.inj z))];rfl) q
def sR(K:W.Frag)(q:Addr)(bf bx td:Addr)(w:Int)(H:Hp)(Q:VK):Prop:=∃(d:Deed)(b0 b:Bx)(ns:List Str)(tl:List Int),SqT K H q d.vs/\d.fine/\Deed.good ns w d/\H bf=some (.dK b0)/\BxG ns w b0/\H bx=some (.dK b)/\BxG ns w b/\H td=some (.lst (tl.map V.int))/\tl.length<=200000/\1<=w/\w<=8/\
 ∀H',SameB bx td H H'->H' bx=some (.dK (GO.atB w d b0 b))->H' td=some (.lst ((doT w d b0 tl).map V.int))->Q .non H'
def uz(K:W.Frag):Sp:=fun vs H Q _=>∃(q bf bx td:Addr)(w:Int),vs=[.ref q,.ref bf,.ref bx,.ref td,.int w]/\sR K q bf bx td w H Q
theorem n6{q bf bx td:Addr}{w:Int}{H:Hp}{Q:VK}{E:XK}:uz K [.ref q,.ref bf,.ref bx,.ref td,.int w] H Q E=sR K q bf bx td w H Q:=propext ⟨by rintro ⟨_,_,_,_,_,e,q⟩;cases e;exact q,fun q=>zBN _ _ _ _ _ rfl q⟩
theorem Bn(T:Txt K mg t):FnOk P w K mg base CX0 2 t.f_54 t.e_54 ["_law_deed_here","_law_before","_law_boxes","_law_said","_law_width"] (uz K):=by
 have G_52:=@pB P w K mg base t T;have G_53:=@pA P w K mg base t T;refine T.d_54.F.ok CS ∅ ?_;rintro cdv A outer s H vs Q E hr ⟨qd,bf,bx,td,w,rfl,d,b0,b,ns,tl,hq,hf,hd,hB,hG,hBx,hGx,hT,hl,w1,w8,q⟩;have hu:=cT hr;refine ⟨_,
   (XSs.h
   (ak
    (aG (av aR (am aw (yqv 0 vl) ae) aI (aA _))
     (ak
      (aY (c5 PySem.F.plainAttrs_list PySem.F.slot_list_append PySem.F.type_list_append ba (yqv 3 vl) (aa (ap T.d_52 G_52 hr.m (aa (am aw (yqv 0 vl) ae) (aa (yqv 1 vl) ac)) gl) ac))))
     (ak
      (aG (av aR (am aw (yqv 0 vl) ae) aI (aA _))
       (ak
        (de hu (yqv 2 vl) (am aw (yqv 0 vl) ae) (ap T.d_52 G_52 hr.m (aa (am aw (yqv 0 vl) ae) (aa (yqv 1 vl) ac)) gl) rfl))
       (ak
        (de hu (yqv 2 vl) (am aw (yqv 0 vl) ae) (ap T.d_53 G_53 hr.m (aa (am aw (yqv 0 vl) ae) (aa (ap T.d_52 G_52 hr.m (aa (am aw (yqv 0 vl) ae) (aa (yqv 1 vl) ac)) gl) (aa (ap T.d_52 G_52 hr.m (aa (am aw (yqv 0 vl) ae) (aa (yqv 1 vl) ac)) gl) (aa (yqv 4 vl) ac)))) gl) rfl))))))),?_⟩
 rw [show aL _ [V.ref qd,V.ref bf,V.ref bx,V.ref td,V.int w]=[some (.ref qd),some (.ref bf),some (.ref bx),some (.ref td),some (.int w)] from rfl];rwa [];have few:=hGx.few;have nbt:bx≠td:=bN hBx hT (by intro z;cases z)
 cases d with
 |tell o=>
  refine zAA _ _ hq rfl ?_;rwa [];refine aF (fun _=>⟨.inl ⟨rfl,_,SqL.of hT⟩,zAA _ _ hq rfl ?_⟩) (fun e=>absurd trivial e);rwa [fH];refine zAH b0 ns w hB hG hd (zAC _ hT (by rw [zq1,sizeLine_eq];omega) (q _ SameB.upd2 (by rw [aq nbt];exact hBx) ?_));show upd H td _ td=some (.lst (List.map V.int (tl++[eK b0 o])));rw [aj,cS];rfl
 |copy n o=>
  refine zAA _ _ hq rfl ?_;rwa [];refine aF (fun e=>absurd e Jk) (fun _=>zAA _ _ hq rfl ?_);rwa [];refine aF (fun _=>zAA _ _ hq rfl ?_) (fun e=>absurd trivial e);rwa [fH];refine zAH b0 ns w hB hG hd.2 ?_;exact zAA _ _ hq rfl (zn _ (DPut.k (k:=.inr n) hBx (by rw [sizeLine_eq];omega)) (q _ SameB.upd1 aj (by rw [aq nbt.symm];exact hT)))
 |op f n o o2=>obtain ⟨g1,g2,g3,g4⟩:f∈FB.opsL/\n∈ns/\Opd.good ns w o/\Opd.good ns w o2:=hd;refine zAA _ _ hq rfl ?_;rwa [];refine aF (fun e=>absurd e (mW g1 Jk)) (fun _=>zAA _ _ hq rfl ?_);rwa [];refine aF (fun e=>absurd e (mW g1 Jk)) (fun _=>zAA _ _ hq rfl (zAA _ _ hq rfl ?_));rwa [fH];refine zAH b0 ns w hB hG g3 (zAA _ _ hq rfl ?_);rwa [fH,uj];refine zBL b0 ns w hB hG g4 g1 Jn w8 fun H1 s1=>zAA _ _ (s1.seqT hq) rfl (zn _ (DPut.k (k:=.inr n) (s1 _ _ hBx) (by rw [sizeLine_eq];omega)) ?_);exact q _ ((SameB.of s1).trans SameB.upd1) aj (by rw [aq nbt.symm];exact s1 _ _ hT)
def xm(K:W.Frag)(tb q c:Addr)(m:Int)(H:Hp)(Q:VK):Prop:=∃(wd:Int)(ins oth:List Str)(pr:Addr)(ws:Bx)(F:List FZ.Blk)(n:Nat),m=n/\n<=2100/\TabV K H tb F/\x9 (ins++oth) wd F/\DrN K H q wd ins oth pr/\WdsV H c ws ins wd/\
 ∀p td bx H',Same H H'->H td=none->H bx=none->H' p=some (.tup [.ref td,.ref bx,.bl (GO.cB F wd n 0 (aK ins ws (ins++oth),[])).2])->H' td=some (.lst ((GO.cB F wd n 0 (aK ins ws (ins++oth),[])).1.2.map V.int))->H' bx=some (.dK (GO.cB F wd n 0 (aK ins ws (ins++oth),[])).1.1)->Q (.ref p) H'
def zD(K:W.Frag):Sp:=fun vs H Q _=>∃(tb q c:Addr)(m:Int),vs=[.ref tb,.ref q,.ref c,.int m]/\xm K tb q c m H Q
theorem G9{tb q c:Addr}{m:Int}{H:Hp}{Q:VK}{E:XK}:zD K [.ref tb,.ref q,.ref c,.int m] H Q E=xm K tb q c m H Q:=propext ⟨by rintro ⟨_,_,_,_,e,q⟩;cases e;exact q,fun q=>zAP _ _ _ _ rfl q⟩
theorem DK(T:Txt K mg t):FnOk P w K mg base CX0 3 t.f_64 t.e_64 ["_law_table","_law_drawn_here","_law_words_here","_law_most"] (zD K):=by
 have G_56:=@pw P w K mg base t T;have G_54:=@Bn P w K mg base t T;have G_62:=@yi P w K mg base t T;refine T.d_64.F.ok sc_64 ∅ ?_;rintro cdv A outer s H vs Q E hr ⟨tb,p,c,m,rfl,wd,ins,oth,pr,ws,F,n,rfl,hn,hT,hF,hD,hW,q⟩;have hu:=cT hr;refine ⟨_,
   (XSs.h
   (ai
    (ay (i:=4) sc_64.nd rfl ll (ap T.d_56 G_56 hr.m (aa (yqv 1 vl) (aa (yqv 2 vl) ac)) gl))
   (ai
    (ay (i:=5) sc_64.nd rfl ll (aT ac))
   (ai
    (ay (i:=6) sc_64.nd rfl ll ae)
   (ai
    (bu PassesOwn.never rfl (bX gl T.z_range (aa (yqv 3 vl) ac)) (aH (i:=7) sc_64.nd rfl ll)
     (ai
      (ay (i:=8) sc_64.nd rfl ll (nD PySem.F.plainAttrs_dict PySem.F.slot_dict_copy PySem.F.type_dict_copy pe (yqv 4 vl)))
     (bA
      (bu PassesOwn.never rfl (b9 (am aw (am aS (yqv 0 vl) (yqv 6 vl)) ae)) (aH (i:=9) sc_64.nd rfl ll)
       (ak
        (aY (ap T.d_54 G_54 hr.m (aa (yqv 9 vl) (aa (yqv 8 vl) (aa (yqv 4 vl) (aa (yqv 5 vl) (aa (am aw (yqv 1 vl) ae) ac))))) gl))))
     (ai
      (ay (i:=6) sc_64.nd rfl ll (ap T.d_62 G_62 hr.m (aa (am aw (am aS (yqv 0 vl) (yqv 6 vl)) ae) (aa (yqv 8 vl) ac)) gl))
     (ak
      (aG (av dg (yqv 6 vl) ae (aA _))
       (ak
        (au (aP (aa (yqv 5 vl) (aa (yqv 4 vl) (aa bE ac))))))
       aC))))))
   (ak
    (au (aP (aa (yqv 5 vl) (aa (yqv 4 vl) (aa bE ac))))))))))),?_⟩
 rw [show aL _ [V.ref tb,V.ref p,V.ref c,V.int n]=[some (.ref tb),some (.ref p),some (.ref c),some (.int n),none,none,none,none,none,none] from rfl];rwa [ue,n6,jA];refine zBK wd ins oth pr ws hD hW fun bx H1 s1 hbx0 hbx td htd=>?_;have t1:=Same.upd (o:=.lst []) htd;have s2:=s1.trans t1;have htd0:=s1.free htd;have hfew:=hD.few;have w1:=hD.w1;have w8:=hD.w8;obtain ⟨pi,po,hq,_,_⟩:=hD.ex;generalize hR:GO.cB F wd n 0 (aK ins ws (ins++oth),[])=R at q;refine zAB Jn (by omega +splitNatSub) ?_;rw [eh];refine eT (n:=n) (fun k σ H'=>Same H H'/\∃(st:GA.BT)(i:Nat)(o7 o8 o9:Option V),H' bx=some (.dK st.1)/\H' td=some (.lst (st.2.map V.int))/\BxG (ins++oth) wd st.1/\st.2.length<=60 * k/\i<F.length/\R=GO.cB F wd (n-k) i st/\σ=[some (.ref tb),some (.ref p),some (.ref c),some (.int n),some (.ref bx),some (.ref td),some (.int i),o7,o8,o9])
  ⟨s2,zAW (aK ins ws (ins++oth),[]) 0 _ _ _ (zAT (t1 _ _ hbx) aj (hW.first Jn) (ce _) hF.pos (by rw [x3];exact hR.symm) rfl)⟩ ?_ ?_
 ·rintro k σ H2 hk ⟨s2,st,i,o7,o8,o9,hb2,ht2,hG,hl,hi,eR,rfl⟩;obtain ⟨blk,hblk⟩:∃blk,F[i]?=some blk:=⟨_,zq8 hi⟩
  have hmem:=zq4 hblk;have hg:=hF.st blk hmem;obtain ⟨xs,x,hxs,hx,qs,da,ea,vs,rfl,v1,v2,v3,v4⟩:=hT.at hblk;rw [show n-k=n-(k+1)+1 by omega,GO.fj hblk] at eR;have hlen:=GO.eQ (w:=wd) (b0:=st.1) (ds:=blk.ds) (s:=st);have h60:=hg.len;rwa [n6,jA];refine ⟨.inr (.inr (.inl ⟨rfl,.inl ⟨_,hb2⟩⟩)),zAE _ _ rfl rfl (.inl hb2) fun bf hbf=>?_⟩;have t3:=Same.upd (o:=.dK st.1) hbf;have nbf:bx≠bf:=ao hb2 hbf;have ntf:td≠bf:=ao ht2 hbf;have hb3:=t3 _ _ hb2;have ht3:=t3 _ _ ht2;have s3:=s2.trans t3;have ef:upd H2 bf (.dK st.1) bf=some (.dK st.1):=aj;generalize upd H2 bf (.dK st.1)=H3 at t3 hb3 ht3 s3 ef ⊢;refine ⟨fun σ H'=>Same H H'/\H' bf=some (.dK st.1)/\H' bx=some (.dK (GO.beat wd st.1 blk.ds st).1)/\H' td=some (.lst ((GO.beat wd st.1 blk.ds st).2.map V.int))/\∃o9,σ=[some (.ref tb),some (.ref p),some (.ref c),some (.int n),some (.ref bx),some (.ref td),some (.int i),some (.int k),some (.ref bf),o9],?_,?_⟩
  ·refine zAA _ _ (SqL.of (s3 _ _ hxs)) (bo hx) ?_;rwa [];refine zAA _ _ (s3.seqT v1) rfl (zAC _ rfl ⟨_,SqL.of (s3 _ _ v2)⟩ ?_);refine cA (xs:=vs) (fun j σ H'=>Same H H'/\H' bf=some (.dK st.1)/\BxG (ins++oth) wd (GO.beat wd st.1 (blk.ds.take j) st).1/\H' bx=some (.dK (GO.beat wd st.1 (blk.ds.take j) st).1)/\H' td=some (.lst ((GO.beat wd st.1 (blk.ds.take j) st).2.map V.int))/\∃o9,σ=[some (.ref tb),some (.ref p),some (.ref c),some (.int n),some (.ref bx),some (.ref td),some (.int i),some (.int k),some (.ref bf),o9])
    (zAQ s3 ef hG hb3 ht3 ⟨_,rfl⟩) (fun j σ H' _ h=>SqL.of (h.1 _ _ v2)) ?_ ?_
   ·rintro j y σ H4 hy ⟨s4,ef4,gb,eb,et,o9,rfl⟩;obtain ⟨d,hd,q0,rfl,hq0,hf⟩:=Paired.get v3 hy;have hgd:=hg.gd d (zq4 hd);have hl4:=GO.eQ (w:=wd) (b0:=st.1) (ds:=blk.ds.take j) (s:=st);have lt:(blk.ds.take j).length<=blk.ds.length:=by rw [dE];exact Cs ..
    rwa [n6];refine zAA _ _ (s4.seqT hq) rfl ?_;rw [n6];refine zAW d st.1 _ (ins++oth) _ (zBE (s4.seqT hq0) hf hgd ef4 hG eb gb et Jn w1 w8 fun H5 s5 e1 e2=>zAQ (SameB.out s4 s5 hbx0 htd0) (s5 _ _ ef4 nbf.symm ntf.symm) ?_ ?_ ?_ ⟨_,rfl⟩)
    ·rw [GO.eS hd];exact GO.BxG.atB hG gb hgd w1
    ·rw [GO.eS hd];exact e1
    ·rw [GO.eS hd];exact e2
   ·rintro σ H4 ⟨s4,ef4,gb,eb,et,o9,rfl⟩;rw [v3.length,eO] at eb et;exact zAJ s4 ef4 eb et ⟨_,rfl⟩
  rintro σ H4 ⟨s4,ef4,eb,et,o9,rfl⟩;rwa [jA];refine zAA _ _ (SqL.of (s4 _ _ hxs)) (bo hx) ?_;rwa [];refine zAA _ _ (s4.seqT v1) rfl ?_;rw [jA];refine zAN blk.ed st.1 (ins++oth) wd (s4.seqT v4) ef4 hG hg.nm ?_;obtain ⟨hG3,_⟩:=GO.BxG.beat hG w1 hG hg.gd;unfold GO.tR at eR
  cases e:GA.nxt st.1 blk.ed with
  |none=>
   rw [e] at eR;rwa [y7,e];rw [if_pos Jm];intro pt hpt;subst eR;have t4:=Same.upd (o:=.tup [V.ref td,V.ref bx,V.bl true]) hpt;exact q pt td bx _ (s4.trans t4) htd0 hbx0 aj (t4 _ _ et) (t4 _ _ eb)
  |some j=>rw [e] at eR;rwa [y7,e];rw [if_neg Jo];exact ⟨s4,zAW _ j _ _ _ (zAT eb et hG3 Jn (hF.tg blk hmem j (CB e)) eR rfl)⟩
 ·rintro σ H2 ⟨s2,st,i,o7,o8,o9,hb2,ht2,hG,hl,hi,eR,rfl⟩;rw [nL] at eR;have eR:R=(st,false):=eR;subst eR;rwa [];intro pt hpt;have t4:=Same.upd (o:=.tup [V.ref td,V.ref bx,V.bl false]) hpt;exact q pt td bx _ (s2.trans t4) htd0 hbx0 aj (t4 _ _ ht2) (t4 _ _ hb2)
def uA(K:W.Frag):Sp:=fun vs H Q _=>∃(a b:Addr)(ns:List Int),vs=[.ref a,.ref b]/\SqL K H a (ns.map V.int)/\SqL K H b (ns.map V.int)/\ns.length<=100000/\Q (.bl true) H
theorem yT{a b:Addr}{H:Hp}{Q:VK}{E:XK}:uA K [.ref a,.ref b] H Q E=∃ns:List Int,SqL K H a (ns.map V.int)/\SqL K H b (ns.map V.int)/\ns.length<=100000/\Q (.bl true) H:=propext ⟨by rintro ⟨_,_,ns,e,q⟩;cases e;exact ⟨ns,q⟩,by rintro ⟨ns,q⟩;exact zAI a b ns rfl q⟩
theorem xO{H:Hp}{a:Addr}{xs:List V}{Q:VK}(h:SqL K H a xs)(q:Q (.bl true) H):wm K [.ref a,.ty "list"] H Q:=zAH _ _ _ rfl Jk (.lst h) q
theorem Bo(T:Txt K mg t):FnOk P w K mg base CX0 2 t.f_46 t.e_46 ["_law_found","_law_due"] (uA K):=by
 have G_43:=@iw P w K mg base t T;refine T.d_46.F.ok sc_46 ∅ ?_;rintro cdv A outer s H vs Q E hr ⟨a,b,ns,rfl,hA,hB,hl,q⟩;refine ⟨_,
   (XSs.h
   (ai
    (aG (bP (bS (bj (aZ (aB bD gl T.z_isinstance boot_isinstance (aa (yqv 0 vl) (aa (bF (v:=.ty "list") gl T.z_list boot_list rfl) ac))))) (cj (av eF (aB aD gl T.z_len PySem.boot_len (aa (yqv 0 vl) ac)) (aB aD gl T.z_len PySem.boot_len (aa (yqv 1 vl) ac)) (aA _)))))
     (ak
      (au bE))
     aC)
   (ai
    (bu PassesOwn.never rfl (bX gl T.z_range (aa (aB aD gl T.z_len PySem.boot_len (aa (yqv 1 vl) ac)) ac)) (aH (i:=2) sc_46.nd rfl ll)
     (ak
      (aG (bP (bS (bj (aZ (ap T.d_43 G_43 hr.m (aa (am aS (yqv 0 vl) (yqv 2 vl)) ac) gl))) (cj (av eF (am aS (yqv 0 vl) (yqv 2 vl)) (am aS (yqv 1 vl) (yqv 2 vl)) (aA _)))))
       (ak
        (au bE))
       aC)))
   (ak
    (au bE))))),?_⟩
 rw [show aL _ [V.ref a,V.ref b]=[some (.ref a),some (.ref b),none] from rfl];rwa [];refine xO hA (zn _ rfl ?_);rwa [];refine zn _ (.inl hA) (zn _ (.inl hB) (k8 rfl (zAF _ (.inl hB) ?_ ?_ ?_)))
 ·rw [zq1];omega
 ·rw [zq1];omega
 rw [eh,zq1];refine eT (fun i σ H'=>H'=H/\∃o,σ=[some (.ref a),some (.ref b),o]) ⟨rfl,_,rfl⟩ ?_ ?_
 ·rintro i σ H' hi ⟨rfl,o,rfl⟩;rwa [];have hx:(ns.map V.int)[i]?=some (.int ns[i]):=by rw [cf,zq8 hi];rfl
  refine zAA _ _ hA (bo hx) ?_;rwa [eZ];refine zAA _ _ hA (bo hx) (zAA _ _ hB (bo hx) ?_);rwa [];exact k8 trivial ⟨_,rfl⟩
 ·rintro σ H' ⟨rfl,o,rfl⟩;rwa [];exact q
theorem qC{ns:List Str}{wd:Int}{F:List FZ.Blk}{L:Nat}(hF:x9 ns wd F)(w1:1<=wd)(hL:∀b∈F,b.ds.length<=L):∀{n i:Nat} {s:GA.BT},BxG ns wd s.1->BxG ns wd (GO.cB F wd n i s).1.1/\(GO.cB F wd n i s).1.1.map (·.1)=s.1.map (·.1)/\(GO.cB F wd n i s).1.2.length<=s.2.length+L * n
 |0,i,s,h=>zAB h rfl (lA _ _)
 |n+1,i,s,h=>by
  cases hb:F[i]? with
  |none=>
   rw [GO.cB,hb];exact zAB h rfl (lA _ _)
  |some b=>
   rw [GO.fj hb];have hm:=zq4 hb;obtain ⟨h1,h2⟩:=GO.BxG.beat h w1 h (hF.st b hm).gd;have h3:=GO.eQ (w:=wd) (b0:=s.1) (ds:=b.ds) (s:=s);have h4:=hL b hm;have h5:L * (n+1)=L * n+L:=Nat.mul_succ ..;unfold GO.tR
   cases e:GA.nxt s.1 b.ed with
   |none=>exact zAB h1 h2 (by dsimp only;omega)
   |some j=>obtain ⟨k1,k2,k3⟩:=qC hF w1 hL (n:=n) (i:=j) h1;exact zAB k1 (k2.trans h2) (by dsimp only;omega)
theorem IntD.at{b:Bx}(h:IntD b){i:Nat}{k:Key}{v:V}(hk:b[i]?=some (k,v)):∃j:Int,bI b k=some (.int j):=by
 have hm:=zq4 hk;have ha:=cI k b;rw [zq69.mpr ⟨(k,v),hm,decide_eq_true rfl⟩] at ha
 cases e:bI b k with
 |none=>rw [e] at ha;cases ha
 |some u=>have e':=e;unfold bI at e';obtain ⟨kv,h1,rfl⟩:=zq27.mp e';obtain ⟨j,hj⟩:=h.nums kv (uX h1);exact ⟨j,by rw [hj]⟩
def nZ(K:W.Frag)(p q:Addr)(H:Hp)(Q:VK):Prop:=∃(td bx td2 bx2:Addr)(b:Bx)(tl:List Int)(ov:Bool)(ks:List Str),SqT K H p [.ref td,.ref bx,.bl ov]/\SqT K H q [.ref td2,.ref bx2,.bl ov]/\H td=some (.lst (tl.map V.int))/\H td2=some (.lst (tl.map V.int))/\H bx=some (.dK b)/\H bx2=some (.dK b)/\bx≠bx2/\b.map (·.1)=ks.map Sum.inr/\IntD b/\ks.length<64/\tl.length<=100000/\
 ∀o H',SameX bx2 H H'->H' bx2=some (.frz o (.dK b))->Q (.bl true) H'
def qe(K:W.Frag):Sp:=fun vs H Q _=>∃(p q:Addr),vs=[.ref p,.ref q]/\nZ K p q H Q
theorem n9{p q:Addr}{H:Hp}{Q:VK}{E:XK}:qe K [.ref p,.ref q] H Q E=nZ K p q H Q:=propext ⟨by rintro ⟨_,_,e,q⟩;cases e;exact q,fun q=>zAD _ _ rfl q⟩
theorem yj(T:Txt K mg t):FnOk P w K mg base CX0 3 t.f_65 t.e_65 ["_law_found","_law_due"] (qe K):=by
 have G_46:=@Bo P w K mg base t T;have G_43:=@iw P w K mg base t T;refine T.d_65.F.ok sc_65 ∅ ?_;rintro cdv A outer s H vs Q E hr ⟨p,u,rfl,td,bx,td2,bx2,b,tl,ov,ks,hp,hu2,ht,ht2,hb,hb2,nb,hks,hI,h64,hl,q⟩;have hu:=cT hr;refine ⟨_,
   (XSs.h
   (bA
    (aG (bP (bS (bj (aZ (aB bD gl T.z_isinstance boot_isinstance (aa (yqv 0 vl) (aa (bF (v:=.ty "tuple") gl T.z_tuple boot_tuple rfl) ac))))) (bS (av eF (aB aD gl T.z_len PySem.boot_len (aa (yqv 0 vl) ac)) ae (aA _)) (cj (bj (aZ (aB bD gl T.z_isinstance boot_isinstance (aa (am aw (yqv 0 vl) ae) (aa (bF (v:=.ty "dict") gl T.z_dict boot_dict rfl) ac)))))))))
     (ak
      (au bE))
     aC)
   (bA
    (aG (bP (bS (bj (aZ (ap T.d_46 G_46 hr.m (aa (am aw (yqv 0 vl) ae) (aa (am aw (yqv 1 vl) ae) ac)) gl))) (bS (bj (aZ (aB bD gl T.z_isinstance boot_isinstance (aa (am aw (yqv 0 vl) ae) (aa (bF (v:=.ty "bool") gl T.z_bool boot_bool rfl) ac))))) (cj (av eF (am aw (yqv 0 vl) ae) (am aw (yqv 1 vl) ae) (aA _))))))
     (ak
      (au bE))
     aC)
   (bA
    (aG (av (yu (n:=0) (vB Jm hr)) (aB (ib rfl) gl T.z_sorted boot_sorted (aa (am aw (yqv 0 vl) ae) ac)) (aB (ib rfl) gl T.z_sorted boot_sorted (aa (am aw (yqv 1 vl) ae) ac)) (aA _))
     (ak
      (au bE))
     aC)
   (ai
    (bu PassesOwn.never rfl (A7 (am aw (yqv 1 vl) ae)) (aH (i:=2) sc_65.nd rfl ll)
     (ak
      (aG (bP (bS (bj (aZ (ap T.d_43 G_43 hr.m (aa (cu hu (am aw (yqv 0 vl) ae) (yqv 2 vl) (fun _ _=>rfl)) ac) gl))) (cj (av eF (cu hu (am aw (yqv 0 vl) ae) (yqv 2 vl) (fun _ _=>rfl)) (cu hu (am aw (yqv 1 vl) ae) (yqv 2 vl) (fun _ _=>rfl)) (aA _)))))
       (ak
        (au bE))
       aC)))
   (ak
    (au bE))))))),?_⟩
 rw [show aL _ [V.ref p,V.ref u]=[some (.ref p),some (.ref u),none] from rfl];simp_arith! [];refine zn (fun σ H'=>H'=H/\σ=[some (.ref p),some (.ref u),none]) ?_ ?_
 ·refine jy hp (zn _ rfl ?_);rwa [];refine zn _ (.inr hp) ?_;refine k8 rfl (zAA _ _ hp rfl (zAH _ _ _ rfl Jk (.dic (.inl ⟨_,.inl hb⟩)) (zn _ rfl ?_)));exact k8 trivial rfl
 rintro σ H1 ⟨rfl,rfl⟩;refine later ?_;simp_arith! [yT];refine zn (fun σ H'=>H'=H1/\σ=[some (.ref p),some (.ref u),none]) ?_ ?_
 ·refine zAA _ _ hp rfl (zAA _ _ hu2 rfl ?_);rw [yT];refine zAF tl (SqL.of ht) (SqL.of ht2) hl (zn _ rfl (k8 trivial (zAA _ _ hp rfl (zAH _ _ _ rfl Jk .bl (zn _ rfl (k8 trivial (zAA _ _ hp rfl (zAA _ _ hu2 rfl ?_))))))));refine ⟨by cases ov<;>rfl,zn _ rfl ?_⟩;rw [decide_eq_true rfl,if_neg Jm];exact ⟨rfl,rfl⟩
 rintro σ H1 ⟨rfl,rfl⟩;refine later ?_;simp_arith! [];refine zn (fun σ H'=>Same H1 H'/\σ=[some (.ref p),some (.ref u),none]) ?_ ?_
 ·refine zAA _ _ hp rfl (zAL _ b ks rfl hb hks h64 fun l1 h1=>?_);have t1:=Same.upd (o:=.lst ((FX.srt ks).map V.str)) h1;refine zAA _ _ (t1.seqT hu2) rfl (zAL _ b ks rfl (t1 _ _ hb2) hks h64 fun l2 h2=>?_);have t2:=Same.upd (o:=.lst ((FX.srt ks).map V.str)) h2;refine zn true (Rq.listSelf (SqL.of (t2 _ _ aj)) (SqL.of aj) (by simp [bH])) (zn _ rfl ?_);rw [if_neg Jm];exact ⟨t1.trans t2,rfl⟩
 rintro σ H2 ⟨s2,rfl⟩;refine later ?_;simp_arith! [];refine zAA _ _ (s2.seqT hu2) rfl (zAA bx2 b rfl (s2 _ _ hb2) fun o=>?_);have sx:SameX bx2 H1 (upd H2 bx2 (.frz o (.dK b))):=fun c u e n=>by rw [aq n];exact s2 _ _ e
 have ex:upd H2 bx2 (.frz o (.dK b)) bx2=some (.frz o (.dK b)):=aj;generalize upd H2 bx2 (.frz o (.dK b))=H3 at sx ex ⊢;have np:SqT K H3 p [.ref td,.ref bx,.bl ov]/\SqT K H3 u [.ref td2,.ref bx2,.bl ov]:=by have ts:=SameX.tsD sx hb2;exact ⟨ts.seqT hp,ts.seqT hu2⟩
 have eb3:=sx _ _ hb nb;refine B8 (fun i σ H'=>H'=H3/\∃o2,σ=[some (.ref p),some (.ref u),o2]) ⟨rfl,_,rfl⟩ (fun i σ H' _ h=>by rw [h.1];exact ex) ?_ ?_
 ·rintro i k v σ H4 hk ⟨rfl,o2,rfl⟩;rwa [];obtain ⟨j,hj⟩:=IntD.at hI hk;refine zAA _ _ np.1 rfl (zAA bx (.int j) rfl (.inl (zAA b k (.inl eb3) rfl hj.symm)) ?_);rw [eZ];refine zn _ rfl (k8 trivial (zAA _ _ np.1 rfl (zAA bx (.int j) rfl (.inl (zAA b k (.inl eb3) rfl hj.symm)) (zAA _ _ np.2 rfl (zAA bx2 (.int j) rfl (.inl (zAA b k (.inr ⟨o,ex⟩) rfl hj.symm)) ?_)))));rw [CN];refine zn _ rfl ?_;rw [decide_eq_true rfl,if_neg Jm];exact ⟨rfl,_,rfl⟩
 ·rintro σ H4 ⟨rfl,o2,rfl⟩;refine later ?_;rwa [];exact q _ _ sx ex
variable {H:Hp} {l:List Str}
def ChV(H:Hp)(l:List Str)(w:Int)(k:Nat)(xs:List V):Prop:=∀x∈xs,∃c ws,x=.ref c/\WdsV H c ws l w/\ws.length<=k
theorem ChV.same{H':Hp}{w:Int}{k:Nat}{xs:List V}(h:ChV H l w k xs)(s:Same H H'):ChV H' l w k xs:=fun x hx=>let ⟨c,ws,e,hw,hl⟩:=h x hx;(zAA c ws e (hw.same s) hl)
theorem WdsV.put{H':Hp}{c c':Addr}{ws:Bx}{w x:Int}{n:Str}(h:WdsV H c ws l w)(hc:H' c'=some (.dK (cv ws (.inr n) (.int x))))(h0:0<=x)(h1:x<2 ^ w.toNat):WdsV H' c' (cv ws (.inr n) (.int x)) (l++[n]) w:=
 ⟨hc,h.isI.put _ _,fun m hm=>by
  rw [gf]
  by_cases e:m=n
  ·rw [if_pos e];exact zAC x rfl h0 h1
  ·rw [if_neg e];rcases zq15.mp hm with z | z
   ·exact h.has m z
   ·exact absurd (zq2.mp z) e,fun m hm=>by
  rw [gf,if_neg (fun z=>hm (by rw [z];simp))];exact h.no m fun z=>hm (l8 _ z)⟩
theorem ChV.upd{w:Int}{k:Nat}{xs:List V}{lg:Addr}{ys zs:List V}(h:ChV H l w k xs)(hg:H lg=some (.lst ys)):ChV (L2.upd H lg (.lst zs)) l w k xs:=fun x hx=>by obtain ⟨c,ws,e,hw,hl⟩:=h x hx;exact zAA c ws e ⟨by rw [aq (fun z=>by rw [<- z,hw.hd] at hg;cases hg)];exact hw.hd,hw.isI,hw.has,hw.no⟩ hl
def jL(K:W.Frag)(pi:Addr)(top:Int)(H:Hp)(Q:VK):Prop:=∃(ins:List Str)(wd:Int),H pi=some (.lst (ins.map V.str))/\ins.length<=4/\top=1 * 2 ^ wd.toNat/\1<=wd/\wd<=2/\
 ∀p xs H',Same H H'->H p=none->H' p=some (.lst xs)->ChV H' ins wd 8 xs->Q (.ref p) H'
def kG(K:W.Frag):Sp:=fun vs H Q _=>∃(pi:Addr)(top:Int),vs=[.ref pi,.int top]/\jL K pi top H Q
theorem wn{pi:Addr}{top:Int}{Q:VK}{E:XK}:kG K [.ref pi,.int top] H Q E=jL K pi top H Q:=propext ⟨by rintro ⟨_,_,e,q⟩;cases e;exact q,fun q=>zAD _ _ rfl q⟩
theorem rB(T:Txt K mg t):FnOk P w K mg base CX0 1 t.f_66 t.e_66 ["_law_ins","_law_top"] (kG K):=by
 refine T.d_66.F.ok sc_66 ∅ ?_;rintro cdv A outer s H vs Q E hr ⟨pi,top,rfl,ins,wd,hi,hl,htop,w1,w2,q⟩;have hu:=cT hr;have t4:∃m:Nat,top=m/\0<m/\m<=4/\(m:Int)=2 ^ wd.toNat:=by
  have:wd=1\/wd=2:=by omega
  rcases this with rfl | rfl
  ·exact zAF 2 htop Jm Jm rfl
  ·exact zAF 4 htop Jm Jm rfl
 obtain ⟨m,rfl,m0,m4,hm⟩:=t4;refine ⟨_,
   (XSs.h
   (ai
    (ay (i:=2) sc_66.nd rfl ll (aT (aa j7 ac)))
   (ai
    (bu PassesOwn.never rfl (b9 (yqv 0 vl)) (aH (i:=3) sc_66.nd rfl ll)
     (ai
      (ay (i:=4) sc_66.nd rfl ll (aT ac))
     (ai
      (bu PassesOwn.never rfl (b9 (yqv 2 vl)) (aH (i:=5) sc_66.nd rfl ll)
       (ak
        (bu PassesOwn.never rfl (bX gl T.z_range (aa (yqv 1 vl) ac)) (aH (i:=6) sc_66.nd rfl ll)
         (ai
          (ay (i:=7) sc_66.nd rfl ll (nD PySem.F.plainAttrs_dict PySem.F.slot_dict_copy PySem.F.type_dict_copy pe (yqv 5 vl)))
         (ai
          (de hu (yqv 7 vl) (yqv 3 vl) (yqv 6 vl) rfl)
         (ak
          (aY (c5 PySem.F.plainAttrs_list PySem.F.slot_list_append PySem.F.type_list_append ba (yqv 4 vl) (aa (yqv 7 vl) ac)))))))))
     (ak
      (ay (i:=2) sc_66.nd rfl ll (yqv 4 vl))))))
   (ak
    (au (yqv 2 vl)))))),?_⟩
 rw [show aL _ [V.ref pi,V.int m]=[some (.ref pi),some (.int m),none,none,none,none,none,none] from rfl];rwa [];intro p0 hp0 l0 hl0;have s1:=Same.upd (o:=.dK []) hp0;have s2:=s1.trans (Same.upd (o:=.lst [V.ref p0]) hl0);refine ⟨⟨_,SqL.of (s2 _ _ hi)⟩,?_⟩;refine cA (xs:=ins.map V.str) (fun i σ H'=>Same H H'/\∃(lf:Addr)(xs:List V)(o3 o4 o5 o6 o7:Option V),H lf=none/\H' lf=some (.lst xs)/\xs.length<=4 ^ i/\ChV H' (ins.take i) wd i xs/\σ=[some (.ref pi),some (.int m),some (.ref lf),o3,o4,o5,o6,o7])
  ⟨s2,zAY l0 _ _ _ _ _ _ (zAJ (s1.free hl0) aj Jo ?_ rfl)⟩ (fun i σ H' _ h=>SqL.of (h.1 _ _ hi)) ?_ ?_
 ·intro x hx;rw [zq2.mp hx];exact zAA p0 ([]) rfl ⟨Same.upd hl0 _ _ aj,IntD.nil,fun n hn=>by simp at hn,fun n _=>rfl⟩ (zq0 _)
 ·rintro i x σ H1 hx ⟨sm,lf,xs,o3,o4,o5,o6,o7,hlf0,hlf,lxs,hC,rfl⟩;rw [cf] at hx;obtain ⟨n,hn,rfl⟩:=zq27.mp hx;obtain ⟨hil,hne⟩:=zq10.mp hn;have i3:i<4:=by omega
  have p4:4 ^ i<=64:=by
   have:i=0\/i=1\/i=2\/i=3:=by omega
   rcases this with rfl | rfl | rfl | rfl<;>decide
  have etk:ins.take (i+1)=ins.take i++[n]:=by rw [eN hil,hne]
  rwa [];intro lg hlg;have t1:=Same.upd (o:=.lst []) hlg;have hlg0:=sm.free hlg;have hlf1:=t1 _ _ hlf;refine ⟨⟨_,SqL.of hlf1⟩,?_⟩;refine cA (xs:=xs) (fun j σ H'=>Same H1 H'/\∃(ys:List V)(o5 o6 o7:Option V),H' lg=some (.lst ys)/\ys.length<=m * j/\ChV H' (ins.take i++[n]) wd (i+1) ys/\σ=[some (.ref pi),some (.int m),some (.ref lf),some (.str n),some (.ref lg),o5,o6,o7])
   ⟨t1,zAR ([]) _ _ _ aj Jo (fun x hx=>by cases hx) rfl⟩ (fun j σ H' _ h=>SqL.of (h.1 _ _ hlf)) ?_ ?_
  ·rintro j x σ H2 hxj ⟨s12,ys,o5,o6,o7,hys,lys,hCy,rfl⟩;have hjl:=(zq10.mp hxj).1;obtain ⟨c,ws,rfl,hW,lws⟩:=hC x (zq4 hxj);have hmj:m * j<=4 * 64:=Nat.mul_le_mul m4 Jn;rwa [];refine zAB Jn (by omega +splitNatSub) ?_;rw [eh];refine eT (n:=m) (fun k σ H'=>Same H1 H'/\∃(ys:List V)(o6 o7:Option V),H' lg=some (.lst ys)/\ys.length<=m * j+k/\ChV H' (ins.take i++[n]) wd (i+1) ys/\σ=[some (.ref pi),some (.int m),some (.ref lf),some (.str n),some (.ref lg),some (.ref c),o6,o7])
    ⟨s12,zAH ys _ _ hys lys hCy rfl⟩ ?_ ?_
   ·rintro k σ H3 hk ⟨s13,ys,o6,o7,hys,lys,hCy,rfl⟩;rwa [];have hW3:=hW.same s13;refine ⟨.inr (.inr (.inl ⟨rfl,.inl ⟨ws,hW3.hd⟩⟩)),zAE c ws rfl rfl (.inl hW3.hd) fun pm hpm=>?_⟩;have s34:Same H3 (upd (upd H3 pm (.dK ws)) pm (.dK (cv ws (.inr n) (.int k)))):=(Same.upd hpm).updM hpm;have npl:lg≠pm:=ao hys hpm;refine zAE pm _ rfl (DPut.k (k:=.inr n) aj (by rw [sizeLine_eq];omega)) (.inl ⟨rfl,_,SqL.of (s34 _ _ hys)⟩) (zAF ys (s34 _ _ hys) (by rw [sizeLine_eq];omega) ((s13.trans s34).updM hlg) (zAH _ _ _ aj (by rw [zq3,cG];omega) ?_ rfl));refine ChV.upd (fun x hx=>?_) (s34 _ _ hys);rcases zq15.mp hx with z | z
    ·exact (hCy.same s34) x z
    ·rw [zq2.mp z];exact zAA pm _ rfl (hW.put aj Jn (by rw [<- hm];omega)) (cR (eE ws (.inr n) (.int k)) Jn)
   ·rintro σ H3 ⟨s13,ys,o6,o7,hys,lys,hCy,rfl⟩;exact ⟨s13,zAR ys _ _ _ hys (by rw [Nat.mul_succ];exact lys) hCy rfl⟩
  ·rintro σ H2 ⟨s12,ys,o5,o6,o7,hys,lys,hCy,rfl⟩;rwa [];refine ⟨sm.trans s12,zAY lg ys _ _ _ _ _ (zAJ hlg0 hys ?_ (by rw [etk];exact hCy) rfl)⟩;have:=Nat.mul_le_mul m4 lxs;rw [Av,Nat.mul_comm];omega
 ·rintro σ H1 ⟨sm,lf,xs,o3,o4,o5,o6,o7,hlf0,hlf,lxs,hC,rfl⟩;rw [zq1,eO] at hC;rwa [];exact q lf xs H1 sm hlf0 hlf fun x hx=>let ⟨c,ws,e,hw,hl⟩:=hC x hx;(zAA c ws e hw Jn)
def md:Sp:=fun vs H Q _=>∃c:Int,vs=[.int c]/\Builtin.Int.intBits c<=2 ^ 20/\∀(us:List Int)(p:Addr),us.length=3->(∀x∈us,0<x/\x<=3)->H p=none->Q (.ref p) (upd H p (.tup (us.map V.int)))
theorem zU{ns:List Str}{wd:Int}{us:List Int}{B:List FZ.Blk}{bbs:List (List (List FB.Deed))}(hG:FZ.i4 ns wd B.length B)(hB:0<B.length)(hL:Paired (eP us) B bbs)(up:∀s,s<3->0<=uN us s):
  FZ.i4 ns wd (j2 B bbs).length (j2 B bbs)/\0<(j2 B bbs).length/\(j2 B bbs).length<=9 * B.length/\∀r∈j2 B bbs,bfB us r.ds=true:=by
 have hl:=hL.length;have hb:∀(i:Nat)b bs,B[i]?=some b->bbs[i]?=some bs->eP us b bs/\b.ds.length<=8:=fun i b bs h1 h2=>by
  obtain ⟨bs',h3,h4⟩:=Paired.get hL h1;rw [h2] at h3
  cases h3
  exact ⟨h4,(hG b (zq4 h1)).len⟩
 have hm:∀bs∈bbs,∃b,eP us b bs/\b.ds.length<=8:=fun bs hbs=>by obtain ⟨i,hi⟩:=zq66.mp hbs;obtain ⟨b,h1,_⟩:=Paired.getR hL hi;exact ⟨b,hb i b bs h1 hi⟩
 have hne:∀bs∈bbs,bs≠[]:=fun bs hbs=>let ⟨b,h1,h2⟩:=hm bs hbs;(cW up h2 h1).1;have len:(j2 B bbs).length=fI bbs:=by have z:=gc hl hne B.length (zq0 _);rw [g9 hl,hl,eO] at z;exact z
 have nine:=mj fun bs hbs=>let ⟨b,h1,h2⟩:=hm bs hbs;oU h2 h1;refine zAG ?_ ?_ Jn ?_
 ·rw [len,<- g9 hl];exact zT (us:=us) hl hne hG (fun i b bs h1 h2 l hl2=>by obtain ⟨z1,z2⟩:=hb i b bs h1 h2;exact ((cW up z2 z1).2 l hl2).2) _ (zq0 _)
 ·rw [len];have z:=(gm hne (i:=0) Jn).2;omega
 ·rw [<- g9 hl];exact uR (Z:=fun l=>bfB us l=true) hl hne (fun bs hbs l hl2=>by obtain ⟨b,h1,h2⟩:=hm bs hbs;exact ((cW up h2 h1).2 l hl2).1.bf) _ (zq0 _)
theorem yV{c:Int}{H:Hp}{Q:VK}{E:XK}:md [.int c] H Q E=(Builtin.Int.intBits c<=2 ^ 20/\∀(us:List Int)(p:Addr),us.length=3->(∀x∈us,0<x/\x<=3)->H p=none->Q (.ref p) (upd H p (.tup (us.map V.int)))):=propext ⟨by rintro ⟨_,e,q⟩;cases e;exact q,fun q=>zn _ rfl q⟩
theorem vW(T:Txt K mg t):FnOk P w K mg base CX0 2 t.f_63 t.e_63 ["_law_cell"] md:=by
 have G_45:=@kh P w K mg base t T;refine T.d_63.F.ok sc_63 ∅ ?_;rintro cdv A outer s H vs Q E hr ⟨c,rfl,hb,q⟩;refine ⟨_,
   (XSs.h
   (ai
    (ay (i:=1) sc_63.nd rfl ll (ap T.d_45 G_45 hr.m (aa (yqv 0 vl) (aa ae ac)) gl))
   (ak
    (au (aP (aa (ax bw ae (ax aU (yqv 1 vl) ae)) (aa (ax bw ae (ax aU (ax bh (yqv 1 vl) ae) ae)) (aa (ax bw ae (ax aU (ax bh (yqv 1 vl) ae) ae)) ac)))))))),?_⟩
 rw [show aL _ [V.int c]=[some (.int c),none] from rfl];rwa [fF];have h0:=p9 c 6;refine zAQ hb Jm Jm (CDivB.small Jm Jm) (CDivB.small Jm Jm) fun p hp=>?_;refine q [1+iu c 6 % 3,1+iu c 6 / 8 % 3,1+iu c 6 / 64 % 3] p rfl (fun x hx=>?_) hp;simp only [List.mem_cons,List.not_mem_nil,or_false] at hx;rcases hx with rfl | rfl | rfl<;>omega
variable {H:Hp}
theorem pO{ns:List Str}{w:Int}{s:Stt}(h:GA.GSt ns w s)(hw:1<=w):∀n,GA.GSt ns w (cw w n s)/\(cw w n s).bx.map (·.1)=s.bx.map (·.1)
 |0=>⟨h,rfl⟩
 |n+1=>by
  obtain ⟨h1,h2⟩:=pO h hw n;refine ⟨h1.step hw,?_⟩;rw [cw,<- h2];generalize cw w n s=r at h1;obtain ⟨l,b,t⟩:=r;obtain ⟨g1,g2⟩:=h1
  cases l with
  |nil=>rfl
  |cons x l=>
   cases x with
   |deed d=>exact GO.oT g1 g2.1
   |ifs n x y=>rfl
   |whl n x=>rfl
theorem ProgIn.same{K:W.Frag}{C pp c:Addr}{H':Hp}{wd:Int}{ins oth:List Str}{ss:List Stm}{ws:Bx}(h:ProgIn K C H pp c wd ins oth ss ws)(s:Same H H'):ProgIn K C H' pp c wd ins oth ss ws:=by obtain ⟨⟨a,b,r,xs,f,hP⟩,hW,h⟩:=h;exact zAB (zAW a b r xs f (hP.same s)) (hW.same s) h
def xj(K:W.Frag)(C:Addr)(pp q tb c:Addr)(H:Hp)(Q:VK):Prop:=∃(H0:Hp)(wd:Int)(ins oth:List Str)(ss:List Stm)(pi po pr:Addr)(xs:List V)(g:List Addr)(many:Nat)(ws:Bx)(T:List FZ.Blk)(fs:List Nat),DrV K H0 H q wd ins oth ss pi po pr xs g many/\ProgIn K C H pp c wd ins oth ss ws/\WdsV H c ws ins wd/\TabV K H tb T/\x9 (ins++oth) wd T/\(∀b∈T,b.ds.length<=8)/\(∀ks,TC (FZ.b7 ss) T fs (ins++oth) ks wd)/\fs.getD 0 0=0/\∀H',Same H H'->Q (.bl true) H'
def zA(K:W.Frag)(C:Addr):Sp:=fun vs H Q _=>∃(pp q tb c:Addr),vs=[.ref pp,.ref q,.ref tb,.ref c]/\xj K C pp q tb c H Q
theorem uo{n:Nat}{a b:Addr}{xs:List Int}(ha:SqL K H a (xs.map V.int))(hb:SqL K H b (xs.map V.int)):Rq K H n (.ref a) (.ref b) true:=by
 have z:=Rq.lists (n:=n) (fun _=>true) ha hb rfl fun j x y hx hy=>by
  rw [hx] at hy
  cases hy
  rw [cf] at hx;obtain ⟨i,hi,rfl⟩:=zq27.mp hx;have e:true=eqV (.int i) (.int i):=by simp [eqV]
  rw [e];exact .flat rfl rfl
 rwa [show ((List.range (xs.map V.int).length).all fun _=>true)=true by simp] at z
theorem G1{C pp q tb c:Addr}{Q:VK}{E:XK}:zA K C [.ref pp,.ref q,.ref tb,.ref c] H Q E=xj K C pp q tb c H Q:=propext ⟨by rintro ⟨_,_,_,_,e,q⟩;cases e;exact q,fun q=>zAP _ _ _ _ rfl q⟩
theorem DG(T:Txt K mg t):FnOk P w K mg base CX0 9 t.f_67 t.e_67 ["_law_program","_law_drawn_here","_law_table","_law_words_here"] (zA K t.C_Program):=by
 have G_57:=@Bq P w K mg base t T;have G_36:=@DL P w K mg base t T;have G_65:=@yj P w K mg base t T;have G_64:=@DK P w K mg base t T;have G_42:=@vX P w K mg base t T;refine T.d_67.F.ok sc_67 ∅ ?_;rintro cdv A outer s H vs Q E hr ⟨pp,q0,tb,c,rfl,H0,wd,ins,oth,ss,pi,po,pr,xs,g,many,ws,F,fs,hD,hI,hW,hT,hF,h8,hTC,hm0,q⟩;have hu:=cT hr;refine ⟨_,
   (XSs.h
   (ai
    (jF (ap T.d_57 G_57 hr.m (aa (yqv 1 vl) (aa (yqv 3 vl) (aa ae ac))) gl) (jD rfl (cN (aH (i:=4) sc_67.nd rfl ll) (cN (aH (i:=5) sc_67.nd rfl ll) (cN (aH (i:=6) sc_67.nd rfl ll) iK)))))
   (ai
    (ay (i:=7) sc_67.nd rfl ll (ap T.d_36 G_36 hr.m (aa (yqv 0 vl) (aa (yqv 3 vl) (aa ae ac))) gl))
   (bA
    (aG (bj (aZ (ap T.d_65 G_65 hr.m (aa (yqv 7 vl) (aa (aP (aa (yqv 4 vl) (aa (yqv 5 vl) (aa (aW nH (yqv 6 vl) ae (aA _)) ac)))) ac)) gl)))
     (ak
      (au bE))
     aC)
   (ai
    (ay (i:=8) sc_67.nd rfl ll (ap T.d_64 G_64 hr.m (aa (yqv 2 vl) (aa (yqv 1 vl) (aa (yqv 3 vl) (aa ae ac)))) gl))
   (bA
    (aG (bj (aZ (ap T.d_65 G_65 hr.m (aa (ap T.d_42 G_42 hr.m (aa (yqv 0 vl) (aa (yqv 2 vl) (aa (yqv 3 vl) (aa ae ac)))) gl) (aa (yqv 8 vl) ac)) gl)))
     (ak
      (au bE))
     aC)
   (bA
    (aG (av (yu (n:=0) (vB Jm hr)) (bO dA (am aw (yqv 8 vl) ae) cJ (bM (aB aD gl T.z_len PySem.boot_len (aa (yqv 4 vl) ac)))) (yqv 4 vl) (aA _))
     (ak
      (au bE))
     aC)
   (ak
    (au (A5 (aW dg (yqv 6 vl) ae (aA _)) (dB (cL (am aw (yqv 8 vl) ae) (cL (aW (mV (n:=0) (vB Jm hr)) (am aw (yqv 8 vl) ae) (yqv 4 vl) (aA _)) (dB (aW (w6 hr.units0) (am aw (yqv 8 vl) ae) (yqv 5 vl) (aA _)))))))))))))))),?_⟩
 rw [show aL _ [V.ref pp,V.ref q0,V.ref tb,V.ref c]=[some (.ref pp),some (.ref q0),some (.ref tb),some (.ref c),none,none,none,none,none] from rfl];simp_arith! [EG];have hal:=hD.few;have hw1:=hD.w1;have hw8:=hD.w8;have hgd:=hD.gd;obtain ⟨ks,hks,lks⟩:=GO.oK (ins:=ins) (ws:=ws) (ins++oth);have hBK:BK (ins++oth) wd ks (aK ins ws (ins++oth)):=⟨hW.first Jn,hks⟩
 refine ⟨H0,wd,ins,oth,ss,pi,po,pr,xs,g,many,ws,40,rfl,Jm,hD,hW,fun p1 td bx H1 s1 ftd fbx e1 hV=>?_⟩;have f1:=GA.m3 (w:=wd) (n:=40) (s:=⟨ss,aK ins ws (ins++oth),[]⟩);have f2:=wM (t:=[]) (n:=40) (m:=164) (hTC ks) hm0 hBK Jm;have f3:=fun h=>wL (t:=[]) (n:=40) (m:=164) (hTC ks) hm0 hBK h Jm;have lt1:=(GA.GSt.runL hw1 (n:=40) (s:=⟨ss,aK ins ws (ins++oth),[]⟩) ⟨hW.first Jn,hgd⟩).2;have kk:(cw wd 40 ⟨ss,aK ins ws (ins++oth),[]⟩).bx.map (·.1)=ks.map Sum.inr:=(pO ⟨hBK.g,hgd⟩ hw1 40).2.trans hks;refine zAE _ _ rfl (SqT.of e1) rfl ?_;simp_arith! [];refine later ?_;simp_arith! [Gf];refine zBK wd ins oth ss ws (hI.same s1) Jm fun p2 td2 bx2 H2 s2 f4 f5 g4 g5 g6=>?_;rw [show (40:Int).toNat=40 from rfl,<- f1.1] at g4 g5 g6;have ov:decide ((GA.runL wd 40 ⟨ss,aK ins ws (ins++oth),[]⟩).2.left.length=0)=decide (0<=(GA.runL wd 40 ⟨ss,aK ins ws (ins++oth),[]⟩).1):=by rw [decide_eq_decide,f1.2,f1.1,zq64]
 rw [ov] at g4;rw [<- f1.1] at f2 f3 kk;replace f3:=fun h=>f3 (by rw [f1.1];exact f1.2.mp h);clear f1 ov;generalize GA.runL wd 40 ⟨ss,aK ins ws (ins++oth),[]⟩=R1 at *;refine later ?_;simp_arith! [n9];refine ⟨fun σ H'=>∃o,Same H H'/\H' td=some (.lst (R1.2.told.map V.int))/\H' bx=some (.frz o (.dK R1.2.bx))/\σ=[some (V.ref pp),some (V.ref q0),some (V.ref tb),some (V.ref c),some (V.ref td),some (V.ref bx),some (V.int R1.1),some (V.ref p2),none],?_,?_⟩
 ·intro p3 hp3;have t3:=Same.upd (o:=.tup [V.ref td,V.ref bx,V.bl (decide (0<=R1.1))]) hp3;have s23:=s2.trans t3;refine zBD td2 bx2 td bx R1.2.bx R1.2.told _ ks (zBE (SqT.of (t3 _ _ g4)) (SqT.of aj) (t3 _ _ g5) (s23 _ _ hV.ht) (t3 _ _ g6) (s23 _ _ hV.hb) (ao hV.hb f5).symm kk hV.gd.isI Jn (by dsimp only at lt1;rw [List.length_nil] at lt1;omega) fun o H4 sx ex=>zn _ rfl ?_);rw [if_neg Jm];refine zAF o (fun c' o' e=>sx _ _ (s23 _ _ (s1 _ _ e)) (ao e fbx)) (sx _ _ (s23 _ _ hV.ht) (bN hV.ht hV.hb (by intro z;cases z))) ex rfl
 rintro σ H4 ⟨o4,s4,et4,eb4,rfl⟩;clear s1 s2 g4 g5 g6 f4 f5 e1;refine later ?_;simp_arith! [G9];refine zBP wd ins oth pr ws F 164 rfl Jm (hT.same s4) hF (hD.same s4).n (hW.same s4) fun p5 td5 bx5 H5 s5 f6 f7 e5 ht5 hb5=>?_;obtain ⟨y1,y2,y3⟩:=qC hF hw1 h8 (n:=164) (i:=0) (s:=(aK ins ws (ins++oth),[])) hBK.g;refine later ?_;simp_arith! [zd,n9];have s45:=s4.trans s5;obtain ⟨⟨pa,pb,prr,pxs,pf,hP⟩,hWI,_⟩:=hI.same s45;refine ⟨fun σ H'=>∃o,Same H H'/\H' td=some (.lst (R1.2.told.map V.int))/\H' bx=some (.frz o4 (.dK R1.2.bx))/\H' p5=some (.tup [.ref td5,.ref bx5,.bl (GO.cB F wd 164 0 (aK ins ws (ins++oth),[])).2])/\H' td5=some (.lst ((GO.cB F wd 164 0 (aK ins ws (ins++oth),[])).1.2.map V.int))/\H' bx5=some (.frz o (.dK (GO.cB F wd 164 0 (aK ins ws (ins++oth),[])).1.1))/\σ=[some (V.ref pp),some (V.ref q0),some (V.ref tb),some (V.ref c),some (V.ref td),some (V.ref bx),some (V.int R1.1),some (V.ref p2),some (V.ref p5)],?_,?_⟩
 ·refine ⟨wd,ins,oth,ss,pa,pb,prr,pxs,pf,ws,F,hP,hWI,hw1,hw8,Jn,hT.same s45,hF,Jm,fun p6 td6 bx6 H6 s6 f8 f9 g4 g5 g6=>?_⟩;rw [show (164:Int).toNat=164 from rfl] at g4 g5 g6;rw [n9];refine zBD td6 bx6 td5 bx5 _ _ _ ks (zBE (SqT.of g4) (SqT.of (s6 _ _ e5)) g5 (s6 _ _ ht5) g6 (s6 _ _ hb5) (ao hb5 f9).symm (y2.trans hks) y1.isI Jn (by dsimp only at y3;rw [List.length_nil] at y3;omega) fun o H7 sx ex=>zn _ rfl ?_);rw [if_neg Jm];have nx:∀{c':Addr} {o':HO},H4 c'=some o'->c'≠bx5:=fun e=>ao e f7;exact ⟨o,zAT (fun c' o' e=>sx _ _ (s6 _ _ (s45 _ _ e)) (nx (s4 _ _ e))) (sx _ _ (s6 _ _ (s5 _ _ et4)) (nx et4)) (sx _ _ (s6 _ _ (s5 _ _ eb4)) (nx eb4)) (sx _ _ (s6 _ _ e5) (bN e5 hb5 (by intro z;cases z))) (sx _ _ (s6 _ _ ht5) (bN ht5 hb5 (by intro z;cases z))) ex rfl⟩
 rintro σ H7 ⟨o7,s7,et7,eb7,e7,ht7,hb7,rfl⟩;generalize GO.cB F wd 164 0 (aK ins ws (ins++oth),[])=R2 at *;refine later ?_;simp_arith! [];refine zn (fun σ H'=>Same H7 H'/\σ=[some (V.ref pp),some (V.ref q0),some (V.ref tb),some (V.ref c),some (V.ref td),some (V.ref bx),some (V.int R1.1),some (V.ref p2),some (V.ref p5)]) ?_ ?_
 ·refine zAA _ _ (SqT.of e7) rfl (zn _ (.inl (SqL.of et7)) ?_);refine zAA _ _ rfl (SqL.of ht7) fun p8 hp8=>?_;rw [ii Jn,eh,zq1,<- sH,<- List.prefix_iff_eq_take.mp f2];have t8:=Same.upd (o:=.lst (R1.2.told.map V.int)) hp8;refine zn true (uo (SqL.of aj) (SqL.of (t8 _ _ et7))) (zn _ rfl ?_);rw [if_neg Jm];exact ⟨t8,rfl⟩
 rintro σ H8 ⟨s8,rfl⟩;have s08:=s7.trans s8;refine later ?_;rwa []
 by_cases e0:0<=R1.1
 ·have f3':=f3 e0;subst f3';rw [if_neg (by simpa using e0)];refine zAA _ _ (SqT.of (s8 _ _ e7)) rfl (zn _ rfl ?_);rw [if_pos rfl];refine zAA _ _ (SqT.of (s8 _ _ e7)) rfl (zn true (uo (SqL.of (s8 _ _ ht7)) (SqL.of (s8 _ _ et7))) (zn _ rfl ?_));rw [if_pos rfl];refine zAA _ _ (SqT.of (s8 _ _ e7)) rfl (zAU bx5 bx _ _ rfl rfl (.inr ⟨_,s8 _ _ hb7⟩) (.inr ⟨_,s8 _ _ eb7⟩) hV.gd.isI.flat hV.gd.isI.flat ?_);rw [hV.gd.isI.self];exact q _ s08
 ·rw [if_pos (by simpa using e0)];exact q _ s08
theorem Eu{C p a0 b0 r0:Addr}{d:Nat}{wd:Int}{H:Hp}{Q:VK}{E:XK}:ux K C d [.ref p,.int wd,.ref a0,.ref b0,.ref r0] H Q E=sP K C d p a0 b0 r0 wd H Q:=propext ⟨by rintro ⟨_,_,_,_,_,e,q⟩;cases e;exact q,fun q=>zBN _ _ _ _ _ rfl q⟩
theorem DH(T:Txt K mg t)(hw:t.pr=w.params):FnOk P w K mg base CX0 41 t.f_68 t.e_68 ["_law_script"] (sp_law K):=by
 have G_45:=@kh P w K mg base t T;have G_44:=@Fp P w K mg base t T;have G_47:=@yk P w K mg base t T;have G_51:=@ye P w K mg base t T;have G_50:=@pD P w K mg base t T 4;have G_9:=@Bm P w K mg base t T 4;have G_37:=@yp P w K mg base t T hw 4;have G_63:=@vW P w K mg base t T;have G_61:=@Bj P w K mg base t T;have G_66:=@rB P w K mg base t T;have G_67:=@DG P w K mg base t T;refine T.d_68.F.ok sc_68 ∅ ?_;rintro cdv A outer s H vs Q E hr ⟨a,ns,rfl,ha,hlen,hb,q⟩;have hu:=cT hr;refine ⟨_,
   (XSs.h
   (ai
    (ay (i:=1) sc_68.nd rfl ll (ap T.d_45 G_45 hr.m (aa (ap T.d_44 G_44 hr.m (aa (yqv 0 vl) (aa ae ac)) gl) (aa ae ac)) gl))
   (ai
    (ay (i:=2) sc_68.nd rfl ll (ap T.d_47 G_47 hr.m (aa (ax bh (yqv 1 vl) ae) (aa (ax bw ae (ax aU (ax bh (yqv 1 vl) ae) ae)) ac)) gl))
   (ai
    (ay (i:=3) sc_68.nd rfl ll (ax bw ae (ax aU (yqv 1 vl) ae)))
   (ai
    (ay (i:=4) sc_68.nd rfl ll (bO dA (yqv 2 vl) cJ (bM (ax aU (ax bh (yqv 1 vl) ae) ae))))
   (ai
    (ay (i:=5) sc_68.nd rfl ll (ap T.d_50 G_50 hr.m (aa (bO dA (ap T.d_51 G_51 hr.m (aa (yqv 0 vl) (fk Jp)) gl) cJ (bM (ax aU (ap T.d_44 G_44 hr.m (aa (yqv 0 vl) (aa ae ac)) gl) ae))) (aa (yqv 2 vl) (aa (ax fK ae (yqv 3 vl)) (aa ae ac)))) gl))
   (ai
    (ay (i:=6) sc_68.nd rfl ll (aP (aa (yqv 3 vl) (aa (yqv 4 vl) (aa (bO dA (yqv 2 vl) (bM (aB aD gl T.z_len PySem.boot_len (aa (yqv 4 vl) ac))) cJ) (aa (yqv 5 vl) ac))))))
   (ai
    (ay (i:=7) sc_68.nd rfl ll (gH T.c_Program T.d_9 G_9 hr.m (aa (yqv 3 vl) (aa (yqv 4 vl) (aa (am aw (yqv 6 vl) ae) (aa (yqv 5 vl) ac)))) gl))
   (ai
    (ay (i:=8) sc_68.nd rfl ll (ap T.d_37 G_37 hr.m (aa (yqv 7 vl) (aa (ap T.d_63 G_63 hr.m (aa (ap T.d_44 G_44 hr.m (aa (yqv 0 vl) (aa ae ac)) gl) ac) gl) ac)) gl))
   (ai
    (aG (bj (aZ (ap T.d_61 G_61 hr.m (aa (yqv 8 vl) (aa (yqv 6 vl) ac)) gl)))
     (ak
      (au bE))
     aC)
   (ai
    (bu PassesOwn.never rfl (b9 (ap T.d_66 G_66 hr.m (aa (yqv 4 vl) (aa (ax fK ae (yqv 3 vl)) ac)) gl)) (aH (i:=9) sc_68.nd rfl ll)
     (ak
      (aG (bj (aZ (ap T.d_67 G_67 hr.m (aa (yqv 7 vl) (aa (yqv 6 vl) (aa (yqv 8 vl) (aa (yqv 9 vl) ac)))) gl)))
       (ak
        (au bE))
       aC)))
   (ak
    (au bE))))))))))))),?_⟩
 rw [show aL _ [V.ref a]=[some (.ref a),none,none,none,none,none,none,none,none,none] from rfl];simp_arith! [fF,E6];have hn0:=p9 (atF ns 0) 2;have hbb:Builtin.Int.intBits (atF ns 0)<=2 ^ 20:=nP hb;refine ⟨ns,zAQ ha Jm hbb Jm Jm ?_⟩;generalize iu (atF ns 0) 2=nb at hn0 ⊢;refine later ?_;simp_arith! [C0];have w0:0<=nb % 2:=gi _ Jm;have w7:nb % 2<2:=js _ Jm;have u0:0<=nb / 64 % 4:=gi _ Jm;have u7:nb / 64 % 4<4:=js _ Jm;have k0:0<=nb / 1024 % 3:=gi _ Jm;have k7:nb / 1024 % 3<3:=js _ Jm;refine zAQ (CDivB.small Jm Jm) (CDivB.small Jm Jm) (Int.ediv_nonneg hn0 Jm) Jn Jn fun pn H1 s1 hpn en=>?_;refine later ?_;simp_arith! [];refine later ?_;simp_arith! [];refine ⟨CDivB.small Jm Jm,?_⟩;have lnm:(hX (nb / 8) (1+nb / 64 % 4).toNat).length=(1+nb / 64 % 4).toNat:=kX Jn;generalize hX (nb / 8) (1+nb / 64 % 4).toNat=nms at en lnm;refine zn _ (SqL.of en) fun pi hpi=>?_;rw [ii k0,<- sH];generalize hki:nms.take (nb / 1024 % 3).toNat=ins;have ti:=Same.upd (o:=.lst (ins.map V.str)) hpi;have s1i:=s1.trans ti;refine later ?_;simp_arith! [BQ,E6];refine zAM ns 12 (zBC rfl Jm Jm Jm Jm (s1i.seq ha) hb fun pf fs H2 s2 hpf ef lf=>?_);have s12:=s1i.trans s2;simp_arith! [iB];refine zAC ns (s12.seq ha) Jm (zn _ (SqL.of ef) fun pc hpc=>?_);have c0:0<=atF ns 1 % 13:=gi _ Jm;rw [ii c0,<- sH];have tc:=Same.upd (o:=.lst ((fs.take (atF ns 1 % 13).toNat).map V.int)) hpc;have lc:(fs.take (atF ns 1 % 13).toNat).length<=12:=by rw [dE,lf];exact Cs ..
 generalize fs.take (atF ns 1 % 13).toNat=cs at tc lc ⊢;have s1c:=s12.trans tc;have en3:=(ti.trans (s2.trans tc)) _ _ en;refine ⟨zAB Jn Jn Jm,?_⟩;refine zAU nms (1+nb % 2) cs 3 rfl (⟨SqL.of en3,Jn,Jn,Jn,Jn⟩) rfl Jm (SqL.of aj) Jn fun pr xs ss g H3 s3 fr nf er v3 gd dp my=>?_;have s13:=s1c.trans s3;have ei3:=s3 _ _ (tc _ _ (s2 _ _ (show upd H1 pi (.lst (ins.map V.str)) pi=some (.lst (ins.map V.str)) from aj)));refine later ?_;simp_arith! [];refine zn _ (.inl (SqL.of ei3)) (zn _ (SqL.of (s3 _ _ en3)) fun po hpo q0 hq0=>?_);have eo:eJ (nms.map V.str) (some (((ins.map V.str).length:Nat):Int)) none=(nms.drop ins.length).map V.str:=by rw [iR Jn,eh,zq1,Ax]
 rw [eo] at hq0 ⊢;have to_:=Same.upd (o:=.lst ((nms.drop ins.length).map V.str)) hpo;have tq:=Same.upd (o:=.tup [V.int (1+nb % 2),V.ref pi,V.ref po,V.ref pr]) hq0;have li:ins.length<=2:=by rw [<- hki,dE];omega
 have sall:ins++nms.drop ins.length=nms:=by
  rw [<- hki,dE]
  by_cases h:(nb / 1024 % 3).toNat<=nms.length
  ·rw [sE h,vd]
  ·rw [AK Jn,kP Jn,AM,iL]
 have s14:=(s13.trans to_).trans tq;have hD:DrV K H (upd (upd H3 po (.lst ((nms.drop ins.length).map V.str))) q0 (.tup [V.int (1+nb % 2),V.ref pi,V.ref po,V.ref pr])) q0 (1+nb % 2) ins (nms.drop ins.length) ss pi po pr xs g 12:=
  ⟨aj,tq _ _ (to_ _ _ ei3),tq _ _ aj,tq _ _ (to_ _ _ er),(v3.same to_).same tq,by rw [sall];exact gd,dp,Jn,Jn,Jn,by rw [sall];omega,by rw [sall];omega,fun c hc=>s1c.free (fr c hc),nf⟩
 have w2:1+nb % 2<=2:=by omega
 clear sall eo tq to_ ei3 en3 s13 my dp gd v3 er nf fr s3 tc lc hki;generalize nms.drop ins.length=oth at hD s14 ⊢;generalize 1+nb % 2=wd at hD w2 s14 ⊢;generalize upd (upd H3 po _) q0 _=H1b at hD s14 ⊢;have sz:=s14;clear s14;have hdp:=hD.dp;have hmn:=hD.mn;have hfew:=hD.few;have hw1:=hD.w1;have hw8:=hD.w8;have hgd:=hD.gd;have hal:=hD.few;rw [zq3] at hfew;refine later ?_;simp_arith! [];refine zAA _ _ (SqT.of hD.tup) rfl ?_;intro pp dx hpp hdx hne;simp_arith! [Eu];have s6:Same H1b (upd (upd H1b dx (.own pp)) pp (.ins t.C_Program dx [])):=(Same.upd hdx).updM hpp;refine zAZ dx ins oth xs ss g (zBR aj (s6 _ _ hD.ia) (s6 _ _ hD.oa) (s6 _ _ hD.ra) (hD.st.same s6) Jn Jn Jn Jn fun a' b' r' ys gg H7 sx hP _ _=>?_);have s7:Same H1b H7:=fun c' o' e=>sx c' o' (s6 _ _ e) (ao e hpp);have hD7:=hD.same s7;have s07:=sz.trans s7;clear sx s6 hpp hdx hD s7;refine ⟨rfl,later ?_⟩;simp_arith! [E6,yV,C2];refine zAF ns (s07.seq ha) Jm (nP hb) fun us ut h3 hp3 hut=>?_;have t8:=Same.upd (o:=.tup (us.map V.int)) hut;have eu:upd H7 ut (.tup (us.map V.int)) ut=some (.tup (us.map V.int)):=aj;have hP8:=hP.same t8;have hD8:=hD7.same t8;clear hP hD7 s07;generalize upd H7 ut (.tup (us.map V.int))=H8 at t8 eu hP8 hD8 ⊢;refine ⟨wd,ins,oth,ss,a',b',r',ys,gg,us,ins++oth,hP8,Jn,Jn,hgd,SqT.of eu,h3,hp3,fun tb ts bbs H9 s9 htb0 htb hL hts=>?_⟩;have up:∀s,s<3->0<=uN us s:=fun s hs=>AD (nC h3 hp3 s hs);have lB:=FZ.i8 ss;have hG:=FZ.jN hgd;obtain ⟨g1',g2',g3',g4'⟩:=zU hG lB.2 hL up;have lt:=hts.length;have hlB:=hL.length;have hD9:=hD8.same s9;have hP9:=hP8.same s9;have hm0:(bJ bbs).getD 0 0=0:=(gm (fun bs hbs=>by obtain ⟨i,hi⟩:=zq66.mp hbs;obtain ⟨b,z1,z2⟩:=Paired.getR hL hi;exact (cW up (hG b (zq4 z1)).len z2).1) (i:=0) Jn).1
 have tab:TabV K H9 tb (j2 (FZ.b7 ss) bbs):=zn ts htb (FL.Paired.imp hts fun x _ b _ z=>by obtain ⟨qb,ab,eb,vs,e,v1,v2,v3,v4,v5⟩:=z;exact zAN qb ab eb vs e (SqT.of v1) v2 v3 (SqT.of v4))
 have tg:x9 (ins++oth) wd (j2 (FZ.b7 ss) bbs):=⟨fun b hb=>⟨(g1' b hb).gd,(g1' b hb).nm,by have:=(g1' b hb).len;omega⟩,fun b hb=>(g1' b hb).tg,g2'⟩
 have hTC:=fun ks=>F0 (ks:=ks) hw1 hG hL up;refine later ?_;simp_arith! [Ek];refine zBP _ ts _ wd ins oth pr htb hts g1' g2' Jn hD9.n fun H9b s9b=>zn _ rfl ?_;rw [if_neg Jm];have hDa:=hD9.same s9b;refine later ?_;simp_arith! [];refine ⟨zAB Jn Jn Jm,?_⟩;rw [wn];refine zBF ins wd hDa.ia Jn rfl hw1 w2 fun pc cx H10 s10 _ hpc hC=>zAC pc rfl ⟨_,SqL.of hpc⟩ ?_;have s910:=s9b.trans s10;have hD10:=hDa.same s10;have hP10:=hP9.same s910;have tab10:=tab.same s910;refine cA (xs:=cx) (fun i σ H'=>Same H10 H'/\∃o9,σ=[some (.ref a),some (.int nb),some (.ref pn),some (.int wd),some (.ref pi),some (.ref pr),some (.ref q0),some (.ref pp),some (.ref tb),o9]) ⟨Same.refl _,_,rfl⟩ (fun i σ H' _ h=>SqL.of (h.1 _ _ hpc)) ?_ ?_
 ·rintro i x σ H11 hx ⟨s11,o9,rfl⟩;obtain ⟨c,ws,rfl,hW0,_⟩:=hC x (zq4 hx);have hW:=hW0.same s11;rwa [G1];refine ⟨H,wd,ins,oth,ss,pi,po,pr,xs,g,12,ws,_,_,hD10.same s11,zAT (zAW a' b' r' ys gg (hP10.same s11)) ⟨.inl hW.hd,hW.has⟩ hw1 hw8 Jn hgd Jn,hW,tab10.same s11,tg,fun b hb=>(g1' b hb).len,hTC,hm0,fun H12 s12=>zn _ rfl ?_⟩;rw [if_neg Jm];exact ⟨s11.trans s12,_,rfl⟩
 ·rintro σ H11 ⟨s11,o9,rfl⟩;refine later ?_;rwa [];exact q _
theorem vM(T:Txt K mg t):∀(s:Shared)(u:Value),BindsTo s t.e_68 ⟨[u],[]⟩ [("_law_script",u)]:=by obtain ⟨oc,od,kV,doc,pm,an,cdv,ct,osl,e,_,_⟩:=T.d_68.F.ex;intro s u;rw [e];exact .of_eq rfl
end
theorem J7{l:W.OpenLaw}{q:Program}{loose:List Str}{XP:(Str->Option Value)->Heap->Prop}{YP:World->Heap->Prop}{d:DefRec}{K:Params->W.Frag}(hn:l.most=some 63)(hdf:d.params.defaults=[])(hd:d.name="law")
  (hY:∀(w:World)(h:Heap),YP w h->(K w.params).In h)
  (F:∀(w:World)(mg:Str->Option Value)(h:Heap),(K w.params).In h->h.Ns mainGlobals mg->∃t,Txt (K w.params) mg t/\t.pr=w.params) :
  W.WalkO q loose XP YP l.row.toRowW d [] (fun f vs=>PySem.call f vs):=by
 refine L2.A2 (n:=63) (k:=100) (x:="_law_script") (CX:=fun _=>CX0) (sp:=fun w=>sp_law (K w.params)) hn Jm hdf ⟨rfl,Jm,Jm⟩ hY (fun w mg fa h KX G hmg=>?_) (fun _ _ a ns hl hb _ hS=>zAS a ns rfl hS hl hb fun _=>rfl) fun _ _ _ _ _ z=>z;obtain ⟨t,T,hw⟩:=F w mg h KX G;rw [hd] at hmg;have e0:=hmg.symm.trans T.d_68.M
 cases e0
 exact zn t.e_68 (vM T) fun base _ _=>(DH T hw).mono Jm
end K53
set_option maxHeartbeats 4000000
local macro_rules | `(tactic| simp_arith [$ts,*])=>`(tactic| ((try dsimp only); k_is))
local macro_rules | `(∅)=>`(by simp_arith [])
inductive PySem.W.Fast|tw10118300845104656488|tw17328030961867542765|tw15074619746850656347|tw18406659161978258337|tw16897448798620455016|tw8912817954861095541|tw6625159963597980929|tw17544080383787943845|tw10188214417166063520|tw9066138046652837799|tw6694767302511574194|tw863910001558793176|tw16207525541145786003|tw12257149454543287969|tw5752961014118329073|tw4049705129954345834|tw476588201276196998|tw1237168615911565559|tw15408961744226212893|tw5336250894689337681|tw6587910663789734671|tw9744396903940103314|tw11173632074821076141|tw14201267868431202685|tw9096452460582432104|tw4316998435085465909|tw14827189746133224438|tw18207457319224974247|tw9326831633108165692|tw17113197181358672783|tw14400250075800982205|tw8970320519599010960|tw4085743155580498012|tw4738495690937500401|tw14850446980967983568|tw7430710237567234285|tw9092970961587308521|tw11204168761185117245|tw3672495955642882187|tw3978922332872207205|tw6351691707042421913|tw14353293623637652750|tw1550311539420913705|tw15528738475300000226|tw2053050670714089050|tw16965659380959849422|tw8506351171190969766|tw868546603273115758|tw6998558813629339254|tw591497459163266751|tw15196908702120982631|tw12403927624488346363|tw3321783135433390214|tw2058492755516992487|tw13469438847041155596|tw1745797336779799367|tw12992276594073377476|tw5327569163379296111|tw3449841307865760987|tw17698870188853669819|tw8952036170719061464|tw11272521483490879200|tw10584190709549804700|tw12164928078602032734|tw3980373735123006543|tw17766794124133246472|tw17579544969280353505|tw17041808093707966023|tw17474141903256130215|tw572543635841726967|tw17952148801551287126|tw15011773687975521155|tw12667902422546491104|tw8270673824805613502|tw748109283156813836|tw16488311820405978624|tw17431255384948552248|tw16595725280977444920|tw9637127027387209756|tw4207255522603641569|tw10982439995627335295|tw7000313379744842386|tw16503654306422730457|tw5281135588866338429|tw212191279363951737|tw10595603396618095645|tw1074802786559565654|tw3877024412680020749|tw5078675654557584005|tw18206826568341571800|tw7989904631626352961|tw17646388505241983631|tw12609179838540885380|tw16198185112779132268|tw5480091762162067513|tw5777044695146676782|tw11994731255462387981|tw16002565738230828429|tw3177775985805712139|tw4682389594757669112|tw10537646522567888115|tw864306644503393561|tw9596660778826927001|tw4093117582906463946|tw809150390024155537|tw1640082327975829805|tw6265229718368814294|tw16072687515192126882|tw14827124347929539803|tw5692951881558855302|tw6424962286975271860|tw16036456460003278461|tw17088110923961206719|tw6798049231288216364|tw7700108579331921642|tw17903460542029870252|tw14504778538833807776|tw12721979115087205348|tw9165823820133850860|tw12709722114317540915|tw6160574081667057362|tw6577743143842693956|tw13666062019624270048|tw1300443957327531616|tw18182983441377781874|tw11362635503664051990|tw11787712794719588869|tw4745564803796612461|tw3184322125497208150|tw3027837487964992728|tw789844746747772815|tw17997015106941367173|tw5485388385706783048|tw9617709158052402349|tw8577797701921073974|tw14743456280147018594|tw12442716223030787467|tw18264443916731791598|tw17604377379944121708|tw7883014144992174705|tw16547643747909041795|tw480128466926597338|tw12950006787239028050|tw17309200613697206756|tw10217680631401625392|tw14551272279866788302|tw4440889632394514754|tw1135884279884593530|tw4962199022140430766|tw5374294199563807916|tw13469754744880042101|tw15661465772168859811|tw5609930913220607019|tw15944759646401045217|tw9140595072036852413|tw5987283959959489856|tw8041160111083706065|tw4682817328395241913|tw9523935026495506699|tw7474341949947433624|tw9730749487546210213|tw4455103265378738557|tw6938504040921002671|tw8551115631299678806|tw8690404559648466991|tw12361688786286407025|tw9332465098673021956|tw7402118583414080246|tw508468688932423260|tw13552917908106930589|tw17346198605762604112|tw17038287154799016396|tw3029594134418324441|tw949110053635834603|tw5135512443123474029|tw18248735578096653322|tw15127292727069632511|tw16987517501002818305|tw2796368307170142713|tw13932803399298930996|tw7560933658451063765|tw11083746351030957564|tw3915665426258423823|tw14145533615486463564|tw3295200001827061958|tw14653077096065923147|tw5794348607475231853|tw1129918689196428080|tw10017129473850405638|tw9052045023138787527|tw3401172261444796247|tw15923583926348542075|tw10882814203650909487|tw18297702512206828479|tw9296114034483886979|tw18102807759423121118|tw13703771183527065483|tw8938718003031126600|tw10802860877272453190|tw13720128346401302104|tw16771435422025508912|tw6789922687944072656|tw2605810210552667085|tw14636175114832164261|tw16950468822718918676|tw3094408746040085994|tw12346373033237160006|tw6246777678715613848|tw7840074052386007680|tw4040294799241218062
open PySem PySem.W PyProof.Rows
set_option maxRecDepth 100000 in
set_option maxHeartbeats 0 in
theorem PySem.Challenge.cw_deedloom_k53_tables_for_all_words_holds : PySem.Challenge.rw_deedloom_k53_tables_for_all_words.Holds := by
 w_on; o_law; k_head; (case hw=>w_witness2)
 k_fill
 refine K53.J7 (l := PySem.Challenge.rw_deedloom_k53_tables_for_all_words) rfl rfl rfl (fun w h Y=>PySem.W.kIn_of Y) ?F
 case F =>
  intro w mg h KX G
  exact ⟨⟨w.params,_,_,_,_,_,_,_,_,_,_,_,_,_,_,_,_,_,_,_,_,_,_,_,_,_,_,_,_,_,_,_,_,_,_,_,_,_,_,_,_,_,_,_,_,_,_,_,_,_,_,_,_,_,_,_,_,_,_,_,_,_,_,_,_,_,_,_,_,_,_,_,_,_,_,_,_,_,_,_,_,_,_,_,_,_,_,_,_,_,_,_,_,_,_,_,_,_,_,_,_,_,_,_,_,_,_,_,_,_,_,_,_,_,_,_,_,_,_,_,_,_,_,_,_,_,_,_,_,_,_,_,_,_,_,_,_,_,_,_,_,_,_,_,_,_⟩,⟨PySem.W.mg_of KX G ∅,K53.xQ ∅ (by first | rfl | kernel_rfl | decide) (by first | rfl | kernel_rfl | decide),PySem.W.mg_of KX G ∅,L2.xt KX G ∅ ∅ ∅ ∅ ∅ ∅ ∅,by show PySem.W.findIn _ _ _ = some none; simp_arith [],by show PySem.W.findIn _ _ _ = some none; simp_arith [],by show PySem.W.findIn _ _ _ = some none; simp_arith [],by show PySem.W.findIn _ _ _ = some none; simp_arith [],L2.xt KX G ∅ ∅ ∅ ∅ ∅ ∅ ∅,by show PySem.W.findIn _ _ _ = some none; simp_arith [],by show PySem.W.findIn _ _ _ = some none; simp_arith [],by show PySem.W.findIn _ _ _ = some none; simp_arith [],by show PySem.W.findIn _ _ _ = some none; simp_arith [],by show PySem.W.findIn _ _ _ = some none; simp_arith [],L2.xt KX G ∅ ∅ ∅ ∅ ∅ ∅ ∅,by show PySem.W.findIn _ _ _ = some none; simp_arith [],L2.xt KX G ∅ ∅ ∅ ∅ ∅ ∅ ∅,by show PySem.W.findIn _ _ _ = some none; simp_arith [],by show PySem.W.findIn _ _ _ = some none; simp_arith [],by show PySem.W.findIn _ _ _ = some none; simp_arith [],by show PySem.W.findIn _ _ _ = some none; simp_arith [],L2.xt KX G ∅ ∅ ∅ ∅ ∅ ∅ ∅,by show PySem.W.findIn _ _ _ = some none; simp_arith [],by show PySem.W.findIn _ _ _ = some none; simp_arith [],by show PySem.W.findIn _ _ _ = some none; simp_arith [],L2.bU KX G ∅ ∅ ∅ ∅ (L2.bn1 fun _ _ _ _ _ _ _=>rfl),L2.eg ∅ ∅ ∅ ∅ ∅ (L2.bn1 fun _ _ _ _ _ _ _=>rfl),L2.eg ∅ ∅ ∅ ∅ ∅ (L2.bn1 fun _ _ _ _ _ _ _=>rfl),L2.eg ∅ ∅ ∅ ∅ ∅ (L2.bn2 fun _ _ _ _ _ _ _ _=>rfl),L2.eg ∅ ∅ ∅ ∅ ∅ (L2.bn2 fun _ _ _ _ _ _ _ _=>rfl),L2.eg ∅ ∅ ∅ ∅ ∅ (L2.bn3 fun _ _ _ _ _ _ _ _ _=>rfl),L2.eg ∅ ∅ ∅ ∅ ∅ (L2.bn3 fun _ _ _ _ _ _ _ _ _=>rfl),L2.eg ∅ ∅ ∅ ∅ ∅ (L2.bn3 fun _ _ _ _ _ _ _ _ _=>rfl),L2.eg ∅ ∅ ∅ ∅ ∅ (L2.bn3 fun _ _ _ _ _ _ _ _ _=>rfl),L2.eg ∅ ∅ ∅ ∅ ∅ (L2.bn5 fun _ _ _ _ _ _ _ _ _ _ _=>rfl),L2.bU KX G ∅ ∅ ∅ ∅ (L2.bn1 fun _ _ _ _ _ _ _=>rfl),L2.bU KX G ∅ ∅ ∅ ∅ (L2.bn1 fun _ _ _ _ _ _ _=>rfl),L2.bU KX G ∅ ∅ ∅ ∅ (L2.bn1 fun _ _ _ _ _ _ _=>rfl),L2.bU KX G ∅ ∅ ∅ ∅ (L2.bn4 fun _ _ _ _ _ _ _ _ _ _=>rfl),L2.bU KX G ∅ ∅ ∅ ∅ (L2.bn1 fun _ _ _ _ _ _ _=>rfl),L2.bU KX G ∅ ∅ ∅ ∅ (L2.bn1 fun _ _ _ _ _ _ _=>rfl),L2.bU KX G ∅ ∅ ∅ ∅ (L2.bn1 fun _ _ _ _ _ _ _=>rfl),L2.bU KX G ∅ ∅ ∅ ∅ (L2.bn1 fun _ _ _ _ _ _ _=>rfl),L2.bU KX G ∅ ∅ ∅ ∅ (L2.bn2 fun _ _ _ _ _ _ _ _=>rfl),L2.bU KX G ∅ ∅ ∅ ∅ (L2.bn3 fun _ _ _ _ _ _ _ _ _=>rfl),L2.bU KX G ∅ ∅ ∅ ∅ (L2.bn2 fun _ _ _ _ _ _ _ _=>rfl),L2.bU KX G ∅ ∅ ∅ ∅ (L2.bn2 fun _ _ _ _ _ _ _ _=>rfl),L2.bU KX G ∅ ∅ ∅ ∅ (L2.bn3 fun _ _ _ _ _ _ _ _ _=>rfl),L2.bU KX G ∅ ∅ ∅ ∅ (L2.bn2 fun _ _ _ _ _ _ _ _=>rfl),L2.eg ∅ ∅ ∅ ∅ ∅ (L2.bn3 fun _ _ _ _ _ _ _ _ _=>rfl),L2.eg ∅ ∅ ∅ ∅ ∅ (L2.bn2 fun _ _ _ _ _ _ _ _=>rfl),L2.eg ∅ ∅ ∅ ∅ ∅ (L2.bn4 fun _ _ _ _ _ _ _ _ _ _=>rfl),L2.eg ∅ ∅ ∅ ∅ ∅ (L2.bn4 fun _ _ _ _ _ _ _ _ _ _=>rfl),L2.eg ∅ ∅ ∅ ∅ ∅ (L2.bn4 fun _ _ _ _ _ _ _ _ _ _=>rfl),L2.bU KX G ∅ ∅ ∅ ∅ (L2.bn2 fun _ _ _ _ _ _ _ _=>rfl),L2.eg ∅ ∅ ∅ ∅ ∅ (L2.bn3 fun _ _ _ _ _ _ _ _ _=>rfl),L2.eg ∅ ∅ ∅ ∅ ∅ (L2.bn1 fun _ _ _ _ _ _ _=>rfl),L2.eg ∅ ∅ ∅ ∅ ∅ (L2.bn1 fun _ _ _ _ _ _ _=>rfl),L2.eg ∅ ∅ ∅ ∅ ∅ (L2.bn2 fun _ _ _ _ _ _ _ _=>rfl),L2.eg ∅ ∅ ∅ ∅ ∅ (L2.bn2 fun _ _ _ _ _ _ _ _=>rfl),L2.eg ∅ ∅ ∅ ∅ ∅ (L2.bn2 fun _ _ _ _ _ _ _ _=>rfl),L2.bU KX G ∅ ∅ ∅ ∅ (L2.bn3 fun _ _ _ _ _ _ _ _ _=>rfl),L2.bU KX G ∅ ∅ ∅ ∅ (L2.bn2 fun _ _ _ _ _ _ _ _=>rfl),L2.bU KX G ∅ ∅ ∅ ∅ (L2.bn2 fun _ _ _ _ _ _ _ _=>rfl),L2.bU KX G ∅ ∅ ∅ ∅ (L2.bn2 fun _ _ _ _ _ _ _ _=>rfl),L2.eg ∅ ∅ ∅ ∅ ∅ (L2.bn4 fun _ _ _ _ _ _ _ _ _ _=>rfl),L2.eg ∅ ∅ ∅ ∅ ∅ (L2.bn1 fun _ _ _ _ _ _ _=>rfl),L2.bU KX G ∅ ∅ ∅ ∅ (L2.bn4 fun _ _ _ _ _ _ _ _ _ _=>rfl),L2.bU KX G ∅ ∅ ∅ ∅ (L2.bn1 fun _ _ _ _ _ _ _=>rfl),L2.bU KX G ∅ ∅ ∅ ∅ (L2.bn2 fun _ _ _ _ _ _ _ _=>rfl),L2.bU KX G ∅ ∅ ∅ ∅ (L2.bn2 fun _ _ _ _ _ _ _ _=>rfl),L2.bU KX G ∅ ∅ ∅ ∅ (L2.bn2 fun _ _ _ _ _ _ _ _=>rfl),L2.bU KX G ∅ ∅ ∅ ∅ (L2.bn2 fun _ _ _ _ _ _ _ _=>rfl),L2.bU KX G ∅ ∅ ∅ ∅ (L2.bn3 fun _ _ _ _ _ _ _ _ _=>rfl),L2.bU KX G ∅ ∅ ∅ ∅ (L2.bn3 fun _ _ _ _ _ _ _ _ _=>rfl),L2.bU KX G ∅ ∅ ∅ ∅ (L2.bn4 fun _ _ _ _ _ _ _ _ _ _=>rfl),L2.bU KX G ∅ ∅ ∅ ∅ (L2.bn3 fun _ _ _ _ _ _ _ _ _=>rfl),L2.bU KX G ∅ ∅ ∅ ∅ (L2.bn2 fun _ _ _ _ _ _ _ _=>rfl),L2.bU KX G ∅ ∅ ∅ ∅ (L2.bn4 fun _ _ _ _ _ _ _ _ _ _=>rfl),L2.bU KX G ∅ ∅ ∅ ∅ (L2.bn5 fun _ _ _ _ _ _ _ _ _ _ _=>rfl),L2.bU KX G ∅ ∅ ∅ ∅ (L2.bn5 fun _ _ _ _ _ _ _ _ _ _ _=>rfl),L2.bU KX G ∅ ∅ ∅ ∅ (L2.bn2 fun _ _ _ _ _ _ _ _=>rfl),L2.bU KX G ∅ ∅ ∅ ∅ (L2.bn3 fun _ _ _ _ _ _ _ _ _=>rfl),L2.bU KX G ∅ ∅ ∅ ∅ (L2.bn3 fun _ _ _ _ _ _ _ _ _=>rfl),L2.bU KX G ∅ ∅ ∅ ∅ (L2.bn3 fun _ _ _ _ _ _ _ _ _=>rfl),L2.bU KX G ∅ ∅ ∅ ∅ (L2.bn3 fun _ _ _ _ _ _ _ _ _=>rfl),L2.bU KX G ∅ ∅ ∅ ∅ (L2.bn2 fun _ _ _ _ _ _ _ _=>rfl),L2.bU KX G ∅ ∅ ∅ ∅ (L2.bn2 fun _ _ _ _ _ _ _ _=>rfl),L2.bU KX G ∅ ∅ ∅ ∅ (L2.bn1 fun _ _ _ _ _ _ _=>rfl),L2.bU KX G ∅ ∅ ∅ ∅ (L2.bn4 fun _ _ _ _ _ _ _ _ _ _=>rfl),L2.bU KX G ∅ ∅ ∅ ∅ (L2.bn2 fun _ _ _ _ _ _ _ _=>rfl),L2.bU KX G ∅ ∅ ∅ ∅ (L2.bn2 fun _ _ _ _ _ _ _ _=>rfl),L2.bU KX G ∅ ∅ ∅ ∅ (L2.bn4 fun _ _ _ _ _ _ _ _ _ _=>rfl),L2.bU KX G ∅ ∅ ∅ ∅ (L2.bn1 fun _ _ _ _ _ _ _=>rfl),PySem.W.mg_none_of KX G ∅,PySem.W.mg_none_of KX G ∅,PySem.W.mg_none_of KX G ∅,PySem.W.mg_none_of KX G ∅,PySem.W.mg_none_of KX G ∅,PySem.W.mg_none_of KX G ∅,PySem.W.mg_none_of KX G ∅,PySem.W.mg_none_of KX G ∅,PySem.W.mg_none_of KX G ∅,PySem.W.mg_none_of KX G ∅,PySem.W.mg_none_of KX G ∅,PySem.W.mg_none_of KX G ∅,PySem.W.mg_none_of KX G ∅,PySem.W.mg_none_of KX G ∅,PySem.W.mg_none_of KX G ∅,PySem.W.mg_none_of KX G ∅⟩,rfl⟩
