
/- Layer 18, pure: what the writes of each kind leave. Made by mk_sp3.py. -/

import Derived.Test.YtfjkddjjpbdjkaaSQ1

namespace Go.Proofs.Ytfjkddjjpbdjkaa

/-- What a change leaves: the tree at its top, all else as it was. -/
structure BOut (t T : NL) (M : List Nat) (top : Nat) (b : BT) : Prop where
  len : T.length = t.length
  tree : ∃ M', AT T top b M' ∧ M'.Perm M
  off : ∀ p, p ∉ M → ndAt T p = ndAt t p
theorem bout1 {t : NL} {x l r : Nat} {bl br : BT} {Ll Lr : List Nat} (a b c : Int) (hx : x < t.length) (al : AT t l bl Ll) (ar : AT t r br Lr) (hN : (x :: (Ll ++ Lr)).Nodup) :
    BOut t (ovr (wth (wth t l a) r b) x c (l : Int) (r : Int)) (x :: (Ll ++ Lr)) x (.node ((ndP (ndAt t x)).w c) (bl.wset a) (br.wset b)) := by
  have ml := al.mem
  have mr := ar.mem
  have n_x_l : x ∉ Ll := fun h => by have c := List.nodup_iff_count.1 hN x; simp only [List.count_cons, List.count_append, beq_self_eq_true, if_true] at c; have d := List.count_pos_iff.2 h; omega
  have n_x_r : x ∉ Lr := fun h => by have c := List.nodup_iff_count.1 hN x; simp only [List.count_cons, List.count_append, beq_self_eq_true, if_true] at c; have d := List.count_pos_iff.2 h; omega
  have n_l_r : l ∉ Lr := fun h => by have c := List.nodup_iff_count.1 hN l; simp only [List.count_cons, List.count_append] at c; have d := List.count_pos_iff.2 h; have d2 := List.count_pos_iff.2 ml; omega
  have n_r_l : r ∉ Ll := fun h => by have c := List.nodup_iff_count.1 hN r; simp only [List.count_cons, List.count_append] at c; have d := List.count_pos_iff.2 h; have d2 := List.count_pos_iff.2 mr; omega
  have e_x_l : x ≠ l := fun h => n_x_l (h ▸ ml)
  have e_l_x : l ≠ x := Ne.symm e_x_l
  have e_x_r : x ≠ r := fun h => n_x_r (h ▸ mr)
  have e_r_x : r ≠ x := Ne.symm e_x_r
  have e_l_r : l ≠ r := fun h => n_l_r (h ▸ mr)
  have e_r_l : r ≠ l := Ne.symm e_l_r
  have d_l : Ll.Nodup := List.nodup_iff_count.2 fun z => by have c := List.nodup_iff_count.1 hN z; simp only [List.count_cons, List.count_append] at c; omega
  have d_r : Lr.Nodup := List.nodup_iff_count.2 fun z => by have c := List.nodup_iff_count.1 hN z; simp only [List.count_cons, List.count_append] at c; omega
  clear hN
  have s1_l : AT (wth t l a) l (bl.wset a) (Ll) := al.wth (by (try simp only [List.mem_cons, List.mem_append, not_or]); (repeat' apply And.intro) <;> assumption)
  have s1_r : AT (wth t l a) r br (Lr) := ar.wth_off (by (try simp only [List.mem_cons, List.mem_append, not_or]); (repeat' apply And.intro) <;> assumption)
  have r1_x : ndAt (wth t l a) x = ndAt t x := (wth_ne _ _ _ _ (by (try simp only [List.mem_cons, List.mem_append, not_or]); (repeat' apply And.intro) <;> assumption)).trans rfl
  have s2_l : AT (wth (wth t l a) r b) l (bl.wset a) (Ll) := s1_l.wth_off (by (try simp only [List.mem_cons, List.mem_append, not_or]); (repeat' apply And.intro) <;> assumption)
  have s2_r : AT (wth (wth t l a) r b) r (br.wset b) (Lr) := s1_r.wth (by (try simp only [List.mem_cons, List.mem_append, not_or]); (repeat' apply And.intro) <;> assumption)
  have r2_x : ndAt (wth (wth t l a) r b) x = ndAt t x := (wth_ne _ _ _ _ (by (try simp only [List.mem_cons, List.mem_append, not_or]); (repeat' apply And.intro) <;> assumption)).trans r1_x
  have s3_x : AT (ovr (wth (wth t l a) r b) x c (l : Int) (r : Int)) x (.node ((ndP (ndAt t x)).w c) (bl.wset a) (br.wset b)) (x :: (Ll ++ Lr)) := AT.over (l := l) (r := r) r2_x ((show _ → _ from fun h => by rw [wth_length, wth_length]; exact h) hx) s2_l s2_r (by (try simp only [List.mem_cons, List.mem_append, not_or]); (repeat' apply And.intro) <;> assumption) (by (try simp only [List.mem_cons, List.mem_append, not_or]); (repeat' apply And.intro) <;> assumption)
  refine ⟨by simp only [ovr_length, wth_length], ⟨_, s3_x, ?_⟩, fun p hp => ?_⟩
  · rw [List.perm_iff_count]; intro z; simp only [List.count_cons, List.count_append]; try omega
  · skip
    have p_x : p ≠ x := fun e => hp (e ▸ by simp)
    have p_l : p ≠ l := fun e => hp (e ▸ by simp [ml])
    have p_r : p ≠ r := fun e => hp (e ▸ by simp [mr])
    rw [ovr_ne _ _ _ _ _ _ (by assumption), wth_ne _ _ _ _ (by assumption), wth_ne _ _ _ _ (by assumption)]
theorem bout2 {t : NL} {x l ll lr r : Nat} {bll blr br : BT} {Lll Llr Lr : List Nat} (a b : Int) (hx : x < t.length) (hl : l < t.length) (all : AT t ll bll Lll) (alr : AT t lr blr Llr) (ar : AT t r br Lr) (hN : (x :: ((l :: (Lll ++ Llr)) ++ Lr)).Nodup) :
    BOut t (ovr (ovr t x a (lr : Int) (r : Int)) l b (ll : Int) (x : Int)) (x :: ((l :: (Lll ++ Llr)) ++ Lr)) l (.node ((ndP (ndAt t l)).w b) bll (.node ((ndP (ndAt t x)).w a) blr br)) := by
  have mll := all.mem
  have mlr := alr.mem
  have mr := ar.mem
  have n_x_ll : x ∉ Lll := fun h => by have c := List.nodup_iff_count.1 hN x; simp only [List.count_cons, List.count_append, beq_self_eq_true, if_true] at c; have d := List.count_pos_iff.2 h; omega
  have n_x_lr : x ∉ Llr := fun h => by have c := List.nodup_iff_count.1 hN x; simp only [List.count_cons, List.count_append, beq_self_eq_true, if_true] at c; have d := List.count_pos_iff.2 h; omega
  have n_x_r : x ∉ Lr := fun h => by have c := List.nodup_iff_count.1 hN x; simp only [List.count_cons, List.count_append, beq_self_eq_true, if_true] at c; have d := List.count_pos_iff.2 h; omega
  have n_l_ll : l ∉ Lll := fun h => by have c := List.nodup_iff_count.1 hN l; simp only [List.count_cons, List.count_append, beq_self_eq_true, if_true] at c; have d := List.count_pos_iff.2 h; omega
  have n_l_lr : l ∉ Llr := fun h => by have c := List.nodup_iff_count.1 hN l; simp only [List.count_cons, List.count_append, beq_self_eq_true, if_true] at c; have d := List.count_pos_iff.2 h; omega
  have n_l_r : l ∉ Lr := fun h => by have c := List.nodup_iff_count.1 hN l; simp only [List.count_cons, List.count_append, beq_self_eq_true, if_true] at c; have d := List.count_pos_iff.2 h; omega
  have n_ll_lr : ll ∉ Llr := fun h => by have c := List.nodup_iff_count.1 hN ll; simp only [List.count_cons, List.count_append] at c; have d := List.count_pos_iff.2 h; have d2 := List.count_pos_iff.2 mll; omega
  have n_ll_r : ll ∉ Lr := fun h => by have c := List.nodup_iff_count.1 hN ll; simp only [List.count_cons, List.count_append] at c; have d := List.count_pos_iff.2 h; have d2 := List.count_pos_iff.2 mll; omega
  have n_lr_ll : lr ∉ Lll := fun h => by have c := List.nodup_iff_count.1 hN lr; simp only [List.count_cons, List.count_append] at c; have d := List.count_pos_iff.2 h; have d2 := List.count_pos_iff.2 mlr; omega
  have n_lr_r : lr ∉ Lr := fun h => by have c := List.nodup_iff_count.1 hN lr; simp only [List.count_cons, List.count_append] at c; have d := List.count_pos_iff.2 h; have d2 := List.count_pos_iff.2 mlr; omega
  have n_r_ll : r ∉ Lll := fun h => by have c := List.nodup_iff_count.1 hN r; simp only [List.count_cons, List.count_append] at c; have d := List.count_pos_iff.2 h; have d2 := List.count_pos_iff.2 mr; omega
  have n_r_lr : r ∉ Llr := fun h => by have c := List.nodup_iff_count.1 hN r; simp only [List.count_cons, List.count_append] at c; have d := List.count_pos_iff.2 h; have d2 := List.count_pos_iff.2 mr; omega
  have e_x_l : x ≠ l := fun h => by subst h; have c := List.nodup_iff_count.1 hN x; simp only [List.count_cons, List.count_append, beq_self_eq_true, if_true] at c; omega
  have e_l_x : l ≠ x := Ne.symm e_x_l
  have e_x_ll : x ≠ ll := fun h => n_x_ll (h ▸ mll)
  have e_ll_x : ll ≠ x := Ne.symm e_x_ll
  have e_x_lr : x ≠ lr := fun h => n_x_lr (h ▸ mlr)
  have e_lr_x : lr ≠ x := Ne.symm e_x_lr
  have e_x_r : x ≠ r := fun h => n_x_r (h ▸ mr)
  have e_r_x : r ≠ x := Ne.symm e_x_r
  have e_l_ll : l ≠ ll := fun h => n_l_ll (h ▸ mll)
  have e_ll_l : ll ≠ l := Ne.symm e_l_ll
  have e_l_lr : l ≠ lr := fun h => n_l_lr (h ▸ mlr)
  have e_lr_l : lr ≠ l := Ne.symm e_l_lr
  have e_l_r : l ≠ r := fun h => n_l_r (h ▸ mr)
  have e_r_l : r ≠ l := Ne.symm e_l_r
  have e_ll_lr : ll ≠ lr := fun h => n_ll_lr (h ▸ mlr)
  have e_lr_ll : lr ≠ ll := Ne.symm e_ll_lr
  have e_ll_r : ll ≠ r := fun h => n_ll_r (h ▸ mr)
  have e_r_ll : r ≠ ll := Ne.symm e_ll_r
  have e_lr_r : lr ≠ r := fun h => n_lr_r (h ▸ mr)
  have e_r_lr : r ≠ lr := Ne.symm e_lr_r
  have d_ll : Lll.Nodup := List.nodup_iff_count.2 fun z => by have c := List.nodup_iff_count.1 hN z; simp only [List.count_cons, List.count_append] at c; omega
  have d_lr : Llr.Nodup := List.nodup_iff_count.2 fun z => by have c := List.nodup_iff_count.1 hN z; simp only [List.count_cons, List.count_append] at c; omega
  have d_r : Lr.Nodup := List.nodup_iff_count.2 fun z => by have c := List.nodup_iff_count.1 hN z; simp only [List.count_cons, List.count_append] at c; omega
  clear hN
  have s1_ll : AT (ovr t x a (lr : Int) (r : Int)) ll bll (Lll) := all.ovr_off (by (try simp only [List.mem_cons, List.mem_append, not_or]); (repeat' apply And.intro) <;> assumption)
  have s1_x : AT (ovr t x a (lr : Int) (r : Int)) x (.node ((ndP (ndAt t x)).w a) blr br) (x :: (Llr ++ Lr)) := AT.over (l := lr) (r := r) rfl ((show _ → _ from fun h => by exact h) hx) alr ar (by (try simp only [List.mem_cons, List.mem_append, not_or]); (repeat' apply And.intro) <;> assumption) (by (try simp only [List.mem_cons, List.mem_append, not_or]); (repeat' apply And.intro) <;> assumption)
  have r1_l : ndAt (ovr t x a (lr : Int) (r : Int)) l = ndAt t l := (ovr_ne _ _ _ _ _ _ (by (try simp only [List.mem_cons, List.mem_append, not_or]); (repeat' apply And.intro) <;> assumption)).trans rfl
  have s2_l : AT (ovr (ovr t x a (lr : Int) (r : Int)) l b (ll : Int) (x : Int)) l (.node ((ndP (ndAt t l)).w b) bll (.node ((ndP (ndAt t x)).w a) blr br)) (l :: (Lll ++ (x :: (Llr ++ Lr)))) := AT.over (l := ll) (r := x) r1_l ((show _ → _ from fun h => by rw [ovr_length]; exact h) hl) s1_ll s1_x (by (try simp only [List.mem_cons, List.mem_append, not_or]); (repeat' apply And.intro) <;> assumption) (by (try simp only [List.mem_cons, List.mem_append, not_or]); (repeat' apply And.intro) <;> assumption)
  refine ⟨by simp only [ovr_length], ⟨_, s2_l, ?_⟩, fun p hp => ?_⟩
  · rw [List.perm_iff_count]; intro z; simp only [List.count_cons, List.count_append]; try omega
  · skip
    have p_x : p ≠ x := fun e => hp (e ▸ by simp)
    have p_l : p ≠ l := fun e => hp (e ▸ by simp)
    have p_ll : p ≠ ll := fun e => hp (e ▸ by simp [mll])
    have p_lr : p ≠ lr := fun e => hp (e ▸ by simp [mlr])
    have p_r : p ≠ r := fun e => hp (e ▸ by simp [mr])
    rw [ovr_ne _ _ _ _ _ _ (by assumption), ovr_ne _ _ _ _ _ _ (by assumption)]
theorem bout3 {t : NL} {x l lr ll lrl lrr r : Nat} {bll blrl blrr br : BT} {Lll Llrl Llrr Lr : List Nat} (a b c : Int) (hx : x < t.length) (hl : l < t.length) (hlr : lr < t.length) (all : AT t ll bll Lll) (alrl : AT t lrl blrl Llrl) (alrr : AT t lrr blrr Llrr) (ar : AT t r br Lr) (hN : (x :: ((l :: (Lll ++ (lr :: (Llrl ++ Llrr)))) ++ Lr)).Nodup) :
    BOut t (ovr (ovr (ovr t l a (ll : Int) (lrl : Int)) x b (lrr : Int) (r : Int)) lr c (l : Int) (x : Int)) (x :: ((l :: (Lll ++ (lr :: (Llrl ++ Llrr)))) ++ Lr)) lr (.node ((ndP (ndAt t lr)).w c) (.node ((ndP (ndAt t l)).w a) bll blrl) (.node ((ndP (ndAt t x)).w b) blrr br)) := by
  have mll := all.mem
  have mlrl := alrl.mem
  have mlrr := alrr.mem
  have mr := ar.mem
  have n_x_ll : x ∉ Lll := fun h => by have c := List.nodup_iff_count.1 hN x; simp only [List.count_cons, List.count_append, beq_self_eq_true, if_true] at c; have d := List.count_pos_iff.2 h; omega
  have n_x_lrl : x ∉ Llrl := fun h => by have c := List.nodup_iff_count.1 hN x; simp only [List.count_cons, List.count_append, beq_self_eq_true, if_true] at c; have d := List.count_pos_iff.2 h; omega
  have n_x_lrr : x ∉ Llrr := fun h => by have c := List.nodup_iff_count.1 hN x; simp only [List.count_cons, List.count_append, beq_self_eq_true, if_true] at c; have d := List.count_pos_iff.2 h; omega
  have n_x_r : x ∉ Lr := fun h => by have c := List.nodup_iff_count.1 hN x; simp only [List.count_cons, List.count_append, beq_self_eq_true, if_true] at c; have d := List.count_pos_iff.2 h; omega
  have n_l_ll : l ∉ Lll := fun h => by have c := List.nodup_iff_count.1 hN l; simp only [List.count_cons, List.count_append, beq_self_eq_true, if_true] at c; have d := List.count_pos_iff.2 h; omega
  have n_l_lrl : l ∉ Llrl := fun h => by have c := List.nodup_iff_count.1 hN l; simp only [List.count_cons, List.count_append, beq_self_eq_true, if_true] at c; have d := List.count_pos_iff.2 h; omega
  have n_l_lrr : l ∉ Llrr := fun h => by have c := List.nodup_iff_count.1 hN l; simp only [List.count_cons, List.count_append, beq_self_eq_true, if_true] at c; have d := List.count_pos_iff.2 h; omega
  have n_l_r : l ∉ Lr := fun h => by have c := List.nodup_iff_count.1 hN l; simp only [List.count_cons, List.count_append, beq_self_eq_true, if_true] at c; have d := List.count_pos_iff.2 h; omega
  have n_lr_ll : lr ∉ Lll := fun h => by have c := List.nodup_iff_count.1 hN lr; simp only [List.count_cons, List.count_append, beq_self_eq_true, if_true] at c; have d := List.count_pos_iff.2 h; omega
  have n_lr_lrl : lr ∉ Llrl := fun h => by have c := List.nodup_iff_count.1 hN lr; simp only [List.count_cons, List.count_append, beq_self_eq_true, if_true] at c; have d := List.count_pos_iff.2 h; omega
  have n_lr_lrr : lr ∉ Llrr := fun h => by have c := List.nodup_iff_count.1 hN lr; simp only [List.count_cons, List.count_append, beq_self_eq_true, if_true] at c; have d := List.count_pos_iff.2 h; omega
  have n_lr_r : lr ∉ Lr := fun h => by have c := List.nodup_iff_count.1 hN lr; simp only [List.count_cons, List.count_append, beq_self_eq_true, if_true] at c; have d := List.count_pos_iff.2 h; omega
  have n_ll_lrl : ll ∉ Llrl := fun h => by have c := List.nodup_iff_count.1 hN ll; simp only [List.count_cons, List.count_append] at c; have d := List.count_pos_iff.2 h; have d2 := List.count_pos_iff.2 mll; omega
  have n_ll_lrr : ll ∉ Llrr := fun h => by have c := List.nodup_iff_count.1 hN ll; simp only [List.count_cons, List.count_append] at c; have d := List.count_pos_iff.2 h; have d2 := List.count_pos_iff.2 mll; omega
  have n_ll_r : ll ∉ Lr := fun h => by have c := List.nodup_iff_count.1 hN ll; simp only [List.count_cons, List.count_append] at c; have d := List.count_pos_iff.2 h; have d2 := List.count_pos_iff.2 mll; omega
  have n_lrl_ll : lrl ∉ Lll := fun h => by have c := List.nodup_iff_count.1 hN lrl; simp only [List.count_cons, List.count_append] at c; have d := List.count_pos_iff.2 h; have d2 := List.count_pos_iff.2 mlrl; omega
  have n_lrl_lrr : lrl ∉ Llrr := fun h => by have c := List.nodup_iff_count.1 hN lrl; simp only [List.count_cons, List.count_append] at c; have d := List.count_pos_iff.2 h; have d2 := List.count_pos_iff.2 mlrl; omega
  have n_lrl_r : lrl ∉ Lr := fun h => by have c := List.nodup_iff_count.1 hN lrl; simp only [List.count_cons, List.count_append] at c; have d := List.count_pos_iff.2 h; have d2 := List.count_pos_iff.2 mlrl; omega
  have n_lrr_ll : lrr ∉ Lll := fun h => by have c := List.nodup_iff_count.1 hN lrr; simp only [List.count_cons, List.count_append] at c; have d := List.count_pos_iff.2 h; have d2 := List.count_pos_iff.2 mlrr; omega
  have n_lrr_lrl : lrr ∉ Llrl := fun h => by have c := List.nodup_iff_count.1 hN lrr; simp only [List.count_cons, List.count_append] at c; have d := List.count_pos_iff.2 h; have d2 := List.count_pos_iff.2 mlrr; omega
  have n_lrr_r : lrr ∉ Lr := fun h => by have c := List.nodup_iff_count.1 hN lrr; simp only [List.count_cons, List.count_append] at c; have d := List.count_pos_iff.2 h; have d2 := List.count_pos_iff.2 mlrr; omega
  have n_r_ll : r ∉ Lll := fun h => by have c := List.nodup_iff_count.1 hN r; simp only [List.count_cons, List.count_append] at c; have d := List.count_pos_iff.2 h; have d2 := List.count_pos_iff.2 mr; omega
  have n_r_lrl : r ∉ Llrl := fun h => by have c := List.nodup_iff_count.1 hN r; simp only [List.count_cons, List.count_append] at c; have d := List.count_pos_iff.2 h; have d2 := List.count_pos_iff.2 mr; omega
  have n_r_lrr : r ∉ Llrr := fun h => by have c := List.nodup_iff_count.1 hN r; simp only [List.count_cons, List.count_append] at c; have d := List.count_pos_iff.2 h; have d2 := List.count_pos_iff.2 mr; omega
  have e_x_l : x ≠ l := fun h => by subst h; have c := List.nodup_iff_count.1 hN x; simp only [List.count_cons, List.count_append, beq_self_eq_true, if_true] at c; omega
  have e_l_x : l ≠ x := Ne.symm e_x_l
  have e_x_lr : x ≠ lr := fun h => by subst h; have c := List.nodup_iff_count.1 hN x; simp only [List.count_cons, List.count_append, beq_self_eq_true, if_true] at c; omega
  have e_lr_x : lr ≠ x := Ne.symm e_x_lr
  have e_x_ll : x ≠ ll := fun h => n_x_ll (h ▸ mll)
  have e_ll_x : ll ≠ x := Ne.symm e_x_ll
  have e_x_lrl : x ≠ lrl := fun h => n_x_lrl (h ▸ mlrl)
  have e_lrl_x : lrl ≠ x := Ne.symm e_x_lrl
  have e_x_lrr : x ≠ lrr := fun h => n_x_lrr (h ▸ mlrr)
  have e_lrr_x : lrr ≠ x := Ne.symm e_x_lrr
  have e_x_r : x ≠ r := fun h => n_x_r (h ▸ mr)
  have e_r_x : r ≠ x := Ne.symm e_x_r
  have e_l_lr : l ≠ lr := fun h => by subst h; have c := List.nodup_iff_count.1 hN l; simp only [List.count_cons, List.count_append, beq_self_eq_true, if_true] at c; omega
  have e_lr_l : lr ≠ l := Ne.symm e_l_lr
  have e_l_ll : l ≠ ll := fun h => n_l_ll (h ▸ mll)
  have e_ll_l : ll ≠ l := Ne.symm e_l_ll
  have e_l_lrl : l ≠ lrl := fun h => n_l_lrl (h ▸ mlrl)
  have e_lrl_l : lrl ≠ l := Ne.symm e_l_lrl
  have e_l_lrr : l ≠ lrr := fun h => n_l_lrr (h ▸ mlrr)
  have e_lrr_l : lrr ≠ l := Ne.symm e_l_lrr
  have e_l_r : l ≠ r := fun h => n_l_r (h ▸ mr)
  have e_r_l : r ≠ l := Ne.symm e_l_r
  have e_lr_ll : lr ≠ ll := fun h => n_lr_ll (h ▸ mll)
  have e_ll_lr : ll ≠ lr := Ne.symm e_lr_ll
  have e_lr_lrl : lr ≠ lrl := fun h => n_lr_lrl (h ▸ mlrl)
  have e_lrl_lr : lrl ≠ lr := Ne.symm e_lr_lrl
  have e_lr_lrr : lr ≠ lrr := fun h => n_lr_lrr (h ▸ mlrr)
  have e_lrr_lr : lrr ≠ lr := Ne.symm e_lr_lrr
  have e_lr_r : lr ≠ r := fun h => n_lr_r (h ▸ mr)
  have e_r_lr : r ≠ lr := Ne.symm e_lr_r
  have e_ll_lrl : ll ≠ lrl := fun h => n_ll_lrl (h ▸ mlrl)
  have e_lrl_ll : lrl ≠ ll := Ne.symm e_ll_lrl
  have e_ll_lrr : ll ≠ lrr := fun h => n_ll_lrr (h ▸ mlrr)
  have e_lrr_ll : lrr ≠ ll := Ne.symm e_ll_lrr
  have e_ll_r : ll ≠ r := fun h => n_ll_r (h ▸ mr)
  have e_r_ll : r ≠ ll := Ne.symm e_ll_r
  have e_lrl_lrr : lrl ≠ lrr := fun h => n_lrl_lrr (h ▸ mlrr)
  have e_lrr_lrl : lrr ≠ lrl := Ne.symm e_lrl_lrr
  have e_lrl_r : lrl ≠ r := fun h => n_lrl_r (h ▸ mr)
  have e_r_lrl : r ≠ lrl := Ne.symm e_lrl_r
  have e_lrr_r : lrr ≠ r := fun h => n_lrr_r (h ▸ mr)
  have e_r_lrr : r ≠ lrr := Ne.symm e_lrr_r
  have d_ll : Lll.Nodup := List.nodup_iff_count.2 fun z => by have c := List.nodup_iff_count.1 hN z; simp only [List.count_cons, List.count_append] at c; omega
  have d_lrl : Llrl.Nodup := List.nodup_iff_count.2 fun z => by have c := List.nodup_iff_count.1 hN z; simp only [List.count_cons, List.count_append] at c; omega
  have d_lrr : Llrr.Nodup := List.nodup_iff_count.2 fun z => by have c := List.nodup_iff_count.1 hN z; simp only [List.count_cons, List.count_append] at c; omega
  have d_r : Lr.Nodup := List.nodup_iff_count.2 fun z => by have c := List.nodup_iff_count.1 hN z; simp only [List.count_cons, List.count_append] at c; omega
  clear hN
  have s1_lrr : AT (ovr t l a (ll : Int) (lrl : Int)) lrr blrr (Llrr) := alrr.ovr_off (by (try simp only [List.mem_cons, List.mem_append, not_or]); (repeat' apply And.intro) <;> assumption)
  have s1_r : AT (ovr t l a (ll : Int) (lrl : Int)) r br (Lr) := ar.ovr_off (by (try simp only [List.mem_cons, List.mem_append, not_or]); (repeat' apply And.intro) <;> assumption)
  have s1_l : AT (ovr t l a (ll : Int) (lrl : Int)) l (.node ((ndP (ndAt t l)).w a) bll blrl) (l :: (Lll ++ Llrl)) := AT.over (l := ll) (r := lrl) rfl ((show _ → _ from fun h => by exact h) hl) all alrl (by (try simp only [List.mem_cons, List.mem_append, not_or]); (repeat' apply And.intro) <;> assumption) (by (try simp only [List.mem_cons, List.mem_append, not_or]); (repeat' apply And.intro) <;> assumption)
  have r1_x : ndAt (ovr t l a (ll : Int) (lrl : Int)) x = ndAt t x := (ovr_ne _ _ _ _ _ _ (by (try simp only [List.mem_cons, List.mem_append, not_or]); (repeat' apply And.intro) <;> assumption)).trans rfl
  have r1_lr : ndAt (ovr t l a (ll : Int) (lrl : Int)) lr = ndAt t lr := (ovr_ne _ _ _ _ _ _ (by (try simp only [List.mem_cons, List.mem_append, not_or]); (repeat' apply And.intro) <;> assumption)).trans rfl
  have s2_l : AT (ovr (ovr t l a (ll : Int) (lrl : Int)) x b (lrr : Int) (r : Int)) l (.node ((ndP (ndAt t l)).w a) bll blrl) (l :: (Lll ++ Llrl)) := s1_l.ovr_off (by (try simp only [List.mem_cons, List.mem_append, not_or]); (repeat' apply And.intro) <;> assumption)
  have s2_x : AT (ovr (ovr t l a (ll : Int) (lrl : Int)) x b (lrr : Int) (r : Int)) x (.node ((ndP (ndAt t x)).w b) blrr br) (x :: (Llrr ++ Lr)) := AT.over (l := lrr) (r := r) r1_x ((show _ → _ from fun h => by rw [ovr_length]; exact h) hx) s1_lrr s1_r (by (try simp only [List.mem_cons, List.mem_append, not_or]); (repeat' apply And.intro) <;> assumption) (by (try simp only [List.mem_cons, List.mem_append, not_or]); (repeat' apply And.intro) <;> assumption)
  have r2_lr : ndAt (ovr (ovr t l a (ll : Int) (lrl : Int)) x b (lrr : Int) (r : Int)) lr = ndAt t lr := (ovr_ne _ _ _ _ _ _ (by (try simp only [List.mem_cons, List.mem_append, not_or]); (repeat' apply And.intro) <;> assumption)).trans r1_lr
  have s3_lr : AT (ovr (ovr (ovr t l a (ll : Int) (lrl : Int)) x b (lrr : Int) (r : Int)) lr c (l : Int) (x : Int)) lr (.node ((ndP (ndAt t lr)).w c) (.node ((ndP (ndAt t l)).w a) bll blrl) (.node ((ndP (ndAt t x)).w b) blrr br)) (lr :: ((l :: (Lll ++ Llrl)) ++ (x :: (Llrr ++ Lr)))) := AT.over (l := l) (r := x) r2_lr ((show _ → _ from fun h => by rw [ovr_length, ovr_length]; exact h) hlr) s2_l s2_x (by (try simp only [List.mem_cons, List.mem_append, not_or]); (repeat' apply And.intro) <;> assumption) (by (try simp only [List.mem_cons, List.mem_append, not_or]); (repeat' apply And.intro) <;> assumption)
  refine ⟨by simp only [ovr_length], ⟨_, s3_lr, ?_⟩, fun p hp => ?_⟩
  · rw [List.perm_iff_count]; intro z; simp only [List.count_cons, List.count_append]; try omega
  · skip
    have p_x : p ≠ x := fun e => hp (e ▸ by simp)
    have p_l : p ≠ l := fun e => hp (e ▸ by simp)
    have p_lr : p ≠ lr := fun e => hp (e ▸ by simp)
    have p_ll : p ≠ ll := fun e => hp (e ▸ by simp [mll])
    have p_lrl : p ≠ lrl := fun e => hp (e ▸ by simp [mlrl])
    have p_lrr : p ≠ lrr := fun e => hp (e ▸ by simp [mlrr])
    have p_r : p ≠ r := fun e => hp (e ▸ by simp [mr])
    rw [ovr_ne _ _ _ _ _ _ (by assumption), ovr_ne _ _ _ _ _ _ (by assumption), ovr_ne _ _ _ _ _ _ (by assumption)]
theorem bout5 {t : NL} {x r l rl rr : Nat} {bl brl brr : BT} {Ll Lrl Lrr : List Nat} (a b c d : Int) (hx : x < t.length) (hr : r < t.length) (al : AT t l bl Ll) (arl : AT t rl brl Lrl) (arr : AT t rr brr Lrr) (hN : (x :: (Ll ++ (r :: (Lrl ++ Lrr)))).Nodup) :
    BOut t (ovr (ovr (wth (wth t l a) rl b) x d (l : Int) (rl : Int)) r c (x : Int) (rr : Int)) (x :: (Ll ++ (r :: (Lrl ++ Lrr)))) r (.node ((ndP (ndAt t r)).w c) (.node ((ndP (ndAt t x)).w d) (bl.wset a) (brl.wset b)) brr) := by
  have ml := al.mem
  have mrl := arl.mem
  have mrr := arr.mem
  have n_x_l : x ∉ Ll := fun h => by have c := List.nodup_iff_count.1 hN x; simp only [List.count_cons, List.count_append, beq_self_eq_true, if_true] at c; have d := List.count_pos_iff.2 h; omega
  have n_x_rl : x ∉ Lrl := fun h => by have c := List.nodup_iff_count.1 hN x; simp only [List.count_cons, List.count_append, beq_self_eq_true, if_true] at c; have d := List.count_pos_iff.2 h; omega
  have n_x_rr : x ∉ Lrr := fun h => by have c := List.nodup_iff_count.1 hN x; simp only [List.count_cons, List.count_append, beq_self_eq_true, if_true] at c; have d := List.count_pos_iff.2 h; omega
  have n_r_l : r ∉ Ll := fun h => by have c := List.nodup_iff_count.1 hN r; simp only [List.count_cons, List.count_append, beq_self_eq_true, if_true] at c; have d := List.count_pos_iff.2 h; omega
  have n_r_rl : r ∉ Lrl := fun h => by have c := List.nodup_iff_count.1 hN r; simp only [List.count_cons, List.count_append, beq_self_eq_true, if_true] at c; have d := List.count_pos_iff.2 h; omega
  have n_r_rr : r ∉ Lrr := fun h => by have c := List.nodup_iff_count.1 hN r; simp only [List.count_cons, List.count_append, beq_self_eq_true, if_true] at c; have d := List.count_pos_iff.2 h; omega
  have n_l_rl : l ∉ Lrl := fun h => by have c := List.nodup_iff_count.1 hN l; simp only [List.count_cons, List.count_append] at c; have d := List.count_pos_iff.2 h; have d2 := List.count_pos_iff.2 ml; omega
  have n_l_rr : l ∉ Lrr := fun h => by have c := List.nodup_iff_count.1 hN l; simp only [List.count_cons, List.count_append] at c; have d := List.count_pos_iff.2 h; have d2 := List.count_pos_iff.2 ml; omega
  have n_rl_l : rl ∉ Ll := fun h => by have c := List.nodup_iff_count.1 hN rl; simp only [List.count_cons, List.count_append] at c; have d := List.count_pos_iff.2 h; have d2 := List.count_pos_iff.2 mrl; omega
  have n_rl_rr : rl ∉ Lrr := fun h => by have c := List.nodup_iff_count.1 hN rl; simp only [List.count_cons, List.count_append] at c; have d := List.count_pos_iff.2 h; have d2 := List.count_pos_iff.2 mrl; omega
  have n_rr_l : rr ∉ Ll := fun h => by have c := List.nodup_iff_count.1 hN rr; simp only [List.count_cons, List.count_append] at c; have d := List.count_pos_iff.2 h; have d2 := List.count_pos_iff.2 mrr; omega
  have n_rr_rl : rr ∉ Lrl := fun h => by have c := List.nodup_iff_count.1 hN rr; simp only [List.count_cons, List.count_append] at c; have d := List.count_pos_iff.2 h; have d2 := List.count_pos_iff.2 mrr; omega
  have e_x_r : x ≠ r := fun h => by subst h; have c := List.nodup_iff_count.1 hN x; simp only [List.count_cons, List.count_append, beq_self_eq_true, if_true] at c; omega
  have e_r_x : r ≠ x := Ne.symm e_x_r
  have e_x_l : x ≠ l := fun h => n_x_l (h ▸ ml)
  have e_l_x : l ≠ x := Ne.symm e_x_l
  have e_x_rl : x ≠ rl := fun h => n_x_rl (h ▸ mrl)
  have e_rl_x : rl ≠ x := Ne.symm e_x_rl
  have e_x_rr : x ≠ rr := fun h => n_x_rr (h ▸ mrr)
  have e_rr_x : rr ≠ x := Ne.symm e_x_rr
  have e_r_l : r ≠ l := fun h => n_r_l (h ▸ ml)
  have e_l_r : l ≠ r := Ne.symm e_r_l
  have e_r_rl : r ≠ rl := fun h => n_r_rl (h ▸ mrl)
  have e_rl_r : rl ≠ r := Ne.symm e_r_rl
  have e_r_rr : r ≠ rr := fun h => n_r_rr (h ▸ mrr)
  have e_rr_r : rr ≠ r := Ne.symm e_r_rr
  have e_l_rl : l ≠ rl := fun h => n_l_rl (h ▸ mrl)
  have e_rl_l : rl ≠ l := Ne.symm e_l_rl
  have e_l_rr : l ≠ rr := fun h => n_l_rr (h ▸ mrr)
  have e_rr_l : rr ≠ l := Ne.symm e_l_rr
  have e_rl_rr : rl ≠ rr := fun h => n_rl_rr (h ▸ mrr)
  have e_rr_rl : rr ≠ rl := Ne.symm e_rl_rr
  have d_l : Ll.Nodup := List.nodup_iff_count.2 fun z => by have c := List.nodup_iff_count.1 hN z; simp only [List.count_cons, List.count_append] at c; omega
  have d_rl : Lrl.Nodup := List.nodup_iff_count.2 fun z => by have c := List.nodup_iff_count.1 hN z; simp only [List.count_cons, List.count_append] at c; omega
  have d_rr : Lrr.Nodup := List.nodup_iff_count.2 fun z => by have c := List.nodup_iff_count.1 hN z; simp only [List.count_cons, List.count_append] at c; omega
  clear hN
  have s1_l : AT (wth t l a) l (bl.wset a) (Ll) := al.wth (by (try simp only [List.mem_cons, List.mem_append, not_or]); (repeat' apply And.intro) <;> assumption)
  have s1_rl : AT (wth t l a) rl brl (Lrl) := arl.wth_off (by (try simp only [List.mem_cons, List.mem_append, not_or]); (repeat' apply And.intro) <;> assumption)
  have s1_rr : AT (wth t l a) rr brr (Lrr) := arr.wth_off (by (try simp only [List.mem_cons, List.mem_append, not_or]); (repeat' apply And.intro) <;> assumption)
  have r1_x : ndAt (wth t l a) x = ndAt t x := (wth_ne _ _ _ _ (by (try simp only [List.mem_cons, List.mem_append, not_or]); (repeat' apply And.intro) <;> assumption)).trans rfl
  have r1_r : ndAt (wth t l a) r = ndAt t r := (wth_ne _ _ _ _ (by (try simp only [List.mem_cons, List.mem_append, not_or]); (repeat' apply And.intro) <;> assumption)).trans rfl
  have s2_l : AT (wth (wth t l a) rl b) l (bl.wset a) (Ll) := s1_l.wth_off (by (try simp only [List.mem_cons, List.mem_append, not_or]); (repeat' apply And.intro) <;> assumption)
  have s2_rl : AT (wth (wth t l a) rl b) rl (brl.wset b) (Lrl) := s1_rl.wth (by (try simp only [List.mem_cons, List.mem_append, not_or]); (repeat' apply And.intro) <;> assumption)
  have s2_rr : AT (wth (wth t l a) rl b) rr brr (Lrr) := s1_rr.wth_off (by (try simp only [List.mem_cons, List.mem_append, not_or]); (repeat' apply And.intro) <;> assumption)
  have r2_x : ndAt (wth (wth t l a) rl b) x = ndAt t x := (wth_ne _ _ _ _ (by (try simp only [List.mem_cons, List.mem_append, not_or]); (repeat' apply And.intro) <;> assumption)).trans r1_x
  have r2_r : ndAt (wth (wth t l a) rl b) r = ndAt t r := (wth_ne _ _ _ _ (by (try simp only [List.mem_cons, List.mem_append, not_or]); (repeat' apply And.intro) <;> assumption)).trans r1_r
  have s3_rr : AT (ovr (wth (wth t l a) rl b) x d (l : Int) (rl : Int)) rr brr (Lrr) := s2_rr.ovr_off (by (try simp only [List.mem_cons, List.mem_append, not_or]); (repeat' apply And.intro) <;> assumption)
  have s3_x : AT (ovr (wth (wth t l a) rl b) x d (l : Int) (rl : Int)) x (.node ((ndP (ndAt t x)).w d) (bl.wset a) (brl.wset b)) (x :: (Ll ++ Lrl)) := AT.over (l := l) (r := rl) r2_x ((show _ → _ from fun h => by rw [wth_length, wth_length]; exact h) hx) s2_l s2_rl (by (try simp only [List.mem_cons, List.mem_append, not_or]); (repeat' apply And.intro) <;> assumption) (by (try simp only [List.mem_cons, List.mem_append, not_or]); (repeat' apply And.intro) <;> assumption)
  have r3_r : ndAt (ovr (wth (wth t l a) rl b) x d (l : Int) (rl : Int)) r = ndAt t r := (ovr_ne _ _ _ _ _ _ (by (try simp only [List.mem_cons, List.mem_append, not_or]); (repeat' apply And.intro) <;> assumption)).trans r2_r
  have s4_r : AT (ovr (ovr (wth (wth t l a) rl b) x d (l : Int) (rl : Int)) r c (x : Int) (rr : Int)) r (.node ((ndP (ndAt t r)).w c) (.node ((ndP (ndAt t x)).w d) (bl.wset a) (brl.wset b)) brr) (r :: ((x :: (Ll ++ Lrl)) ++ Lrr)) := AT.over (l := x) (r := rr) r3_r ((show _ → _ from fun h => by rw [ovr_length, wth_length, wth_length]; exact h) hr) s3_x s3_rr (by (try simp only [List.mem_cons, List.mem_append, not_or]); (repeat' apply And.intro) <;> assumption) (by (try simp only [List.mem_cons, List.mem_append, not_or]); (repeat' apply And.intro) <;> assumption)
  refine ⟨by simp only [ovr_length, wth_length], ⟨_, s4_r, ?_⟩, fun p hp => ?_⟩
  · rw [List.perm_iff_count]; intro z; simp only [List.count_cons, List.count_append]; try omega
  · skip
    have p_x : p ≠ x := fun e => hp (e ▸ by simp)
    have p_r : p ≠ r := fun e => hp (e ▸ by simp)
    have p_l : p ≠ l := fun e => hp (e ▸ by simp [ml])
    have p_rl : p ≠ rl := fun e => hp (e ▸ by simp [mrl])
    have p_rr : p ≠ rr := fun e => hp (e ▸ by simp [mrr])
    rw [ovr_ne _ _ _ _ _ _ (by assumption), ovr_ne _ _ _ _ _ _ (by assumption), wth_ne _ _ _ _ (by assumption), wth_ne _ _ _ _ (by assumption)]
theorem bout7 {t : NL} {x r rl rll l rlll rllr rlr rr : Nat} {bl brlll brllr brlr brr : BT} {Ll Lrlll Lrllr Lrlr Lrr : List Nat} (a b c d e : Int) (hx : x < t.length) (hr : r < t.length) (hrl : rl < t.length) (hrll : rll < t.length) (al : AT t l bl Ll) (arlll : AT t rlll brlll Lrlll) (arllr : AT t rllr brllr Lrllr) (arlr : AT t rlr brlr Lrlr) (arr : AT t rr brr Lrr) (hN : (x :: (Ll ++ (r :: ((rl :: ((rll :: (Lrlll ++ Lrllr)) ++ Lrlr)) ++ Lrr)))).Nodup) :
    BOut t (ovr (ovr (ovr (ovr (wth t l a) x b (l : Int) (rlll : Int)) rl c (rllr : Int) (rlr : Int)) rll d (x : Int) (rl : Int)) r e (rll : Int) (rr : Int)) (x :: (Ll ++ (r :: ((rl :: ((rll :: (Lrlll ++ Lrllr)) ++ Lrlr)) ++ Lrr)))) r (.node ((ndP (ndAt t r)).w e) (.node ((ndP (ndAt t rll)).w d) (.node ((ndP (ndAt t x)).w b) (bl.wset a) brlll) (.node ((ndP (ndAt t rl)).w c) brllr brlr)) brr) := by
  have ml := al.mem
  have mrlll := arlll.mem
  have mrllr := arllr.mem
  have mrlr := arlr.mem
  have mrr := arr.mem
  have n_x_l : x ∉ Ll := fun h => by have c := List.nodup_iff_count.1 hN x; simp only [List.count_cons, List.count_append, beq_self_eq_true, if_true] at c; have d := List.count_pos_iff.2 h; omega
  have n_x_rlll : x ∉ Lrlll := fun h => by have c := List.nodup_iff_count.1 hN x; simp only [List.count_cons, List.count_append, beq_self_eq_true, if_true] at c; have d := List.count_pos_iff.2 h; omega
  have n_x_rllr : x ∉ Lrllr := fun h => by have c := List.nodup_iff_count.1 hN x; simp only [List.count_cons, List.count_append, beq_self_eq_true, if_true] at c; have d := List.count_pos_iff.2 h; omega
  have n_x_rlr : x ∉ Lrlr := fun h => by have c := List.nodup_iff_count.1 hN x; simp only [List.count_cons, List.count_append, beq_self_eq_true, if_true] at c; have d := List.count_pos_iff.2 h; omega
  have n_x_rr : x ∉ Lrr := fun h => by have c := List.nodup_iff_count.1 hN x; simp only [List.count_cons, List.count_append, beq_self_eq_true, if_true] at c; have d := List.count_pos_iff.2 h; omega
  have n_r_l : r ∉ Ll := fun h => by have c := List.nodup_iff_count.1 hN r; simp only [List.count_cons, List.count_append, beq_self_eq_true, if_true] at c; have d := List.count_pos_iff.2 h; omega
  have n_r_rlll : r ∉ Lrlll := fun h => by have c := List.nodup_iff_count.1 hN r; simp only [List.count_cons, List.count_append, beq_self_eq_true, if_true] at c; have d := List.count_pos_iff.2 h; omega
  have n_r_rllr : r ∉ Lrllr := fun h => by have c := List.nodup_iff_count.1 hN r; simp only [List.count_cons, List.count_append, beq_self_eq_true, if_true] at c; have d := List.count_pos_iff.2 h; omega
  have n_r_rlr : r ∉ Lrlr := fun h => by have c := List.nodup_iff_count.1 hN r; simp only [List.count_cons, List.count_append, beq_self_eq_true, if_true] at c; have d := List.count_pos_iff.2 h; omega
  have n_r_rr : r ∉ Lrr := fun h => by have c := List.nodup_iff_count.1 hN r; simp only [List.count_cons, List.count_append, beq_self_eq_true, if_true] at c; have d := List.count_pos_iff.2 h; omega
  have n_rl_l : rl ∉ Ll := fun h => by have c := List.nodup_iff_count.1 hN rl; simp only [List.count_cons, List.count_append, beq_self_eq_true, if_true] at c; have d := List.count_pos_iff.2 h; omega
  have n_rl_rlll : rl ∉ Lrlll := fun h => by have c := List.nodup_iff_count.1 hN rl; simp only [List.count_cons, List.count_append, beq_self_eq_true, if_true] at c; have d := List.count_pos_iff.2 h; omega
  have n_rl_rllr : rl ∉ Lrllr := fun h => by have c := List.nodup_iff_count.1 hN rl; simp only [List.count_cons, List.count_append, beq_self_eq_true, if_true] at c; have d := List.count_pos_iff.2 h; omega
  have n_rl_rlr : rl ∉ Lrlr := fun h => by have c := List.nodup_iff_count.1 hN rl; simp only [List.count_cons, List.count_append, beq_self_eq_true, if_true] at c; have d := List.count_pos_iff.2 h; omega
  have n_rl_rr : rl ∉ Lrr := fun h => by have c := List.nodup_iff_count.1 hN rl; simp only [List.count_cons, List.count_append, beq_self_eq_true, if_true] at c; have d := List.count_pos_iff.2 h; omega
  have n_rll_l : rll ∉ Ll := fun h => by have c := List.nodup_iff_count.1 hN rll; simp only [List.count_cons, List.count_append, beq_self_eq_true, if_true] at c; have d := List.count_pos_iff.2 h; omega
  have n_rll_rlll : rll ∉ Lrlll := fun h => by have c := List.nodup_iff_count.1 hN rll; simp only [List.count_cons, List.count_append, beq_self_eq_true, if_true] at c; have d := List.count_pos_iff.2 h; omega
  have n_rll_rllr : rll ∉ Lrllr := fun h => by have c := List.nodup_iff_count.1 hN rll; simp only [List.count_cons, List.count_append, beq_self_eq_true, if_true] at c; have d := List.count_pos_iff.2 h; omega
  have n_rll_rlr : rll ∉ Lrlr := fun h => by have c := List.nodup_iff_count.1 hN rll; simp only [List.count_cons, List.count_append, beq_self_eq_true, if_true] at c; have d := List.count_pos_iff.2 h; omega
  have n_rll_rr : rll ∉ Lrr := fun h => by have c := List.nodup_iff_count.1 hN rll; simp only [List.count_cons, List.count_append, beq_self_eq_true, if_true] at c; have d := List.count_pos_iff.2 h; omega
  have n_l_rlll : l ∉ Lrlll := fun h => by have c := List.nodup_iff_count.1 hN l; simp only [List.count_cons, List.count_append] at c; have d := List.count_pos_iff.2 h; have d2 := List.count_pos_iff.2 ml; omega
  have n_l_rllr : l ∉ Lrllr := fun h => by have c := List.nodup_iff_count.1 hN l; simp only [List.count_cons, List.count_append] at c; have d := List.count_pos_iff.2 h; have d2 := List.count_pos_iff.2 ml; omega
  have n_l_rlr : l ∉ Lrlr := fun h => by have c := List.nodup_iff_count.1 hN l; simp only [List.count_cons, List.count_append] at c; have d := List.count_pos_iff.2 h; have d2 := List.count_pos_iff.2 ml; omega
  have n_l_rr : l ∉ Lrr := fun h => by have c := List.nodup_iff_count.1 hN l; simp only [List.count_cons, List.count_append] at c; have d := List.count_pos_iff.2 h; have d2 := List.count_pos_iff.2 ml; omega
  have n_rlll_l : rlll ∉ Ll := fun h => by have c := List.nodup_iff_count.1 hN rlll; simp only [List.count_cons, List.count_append] at c; have d := List.count_pos_iff.2 h; have d2 := List.count_pos_iff.2 mrlll; omega
  have n_rlll_rllr : rlll ∉ Lrllr := fun h => by have c := List.nodup_iff_count.1 hN rlll; simp only [List.count_cons, List.count_append] at c; have d := List.count_pos_iff.2 h; have d2 := List.count_pos_iff.2 mrlll; omega
  have n_rlll_rlr : rlll ∉ Lrlr := fun h => by have c := List.nodup_iff_count.1 hN rlll; simp only [List.count_cons, List.count_append] at c; have d := List.count_pos_iff.2 h; have d2 := List.count_pos_iff.2 mrlll; omega
  have n_rlll_rr : rlll ∉ Lrr := fun h => by have c := List.nodup_iff_count.1 hN rlll; simp only [List.count_cons, List.count_append] at c; have d := List.count_pos_iff.2 h; have d2 := List.count_pos_iff.2 mrlll; omega
  have n_rllr_l : rllr ∉ Ll := fun h => by have c := List.nodup_iff_count.1 hN rllr; simp only [List.count_cons, List.count_append] at c; have d := List.count_pos_iff.2 h; have d2 := List.count_pos_iff.2 mrllr; omega
  have n_rllr_rlll : rllr ∉ Lrlll := fun h => by have c := List.nodup_iff_count.1 hN rllr; simp only [List.count_cons, List.count_append] at c; have d := List.count_pos_iff.2 h; have d2 := List.count_pos_iff.2 mrllr; omega
  have n_rllr_rlr : rllr ∉ Lrlr := fun h => by have c := List.nodup_iff_count.1 hN rllr; simp only [List.count_cons, List.count_append] at c; have d := List.count_pos_iff.2 h; have d2 := List.count_pos_iff.2 mrllr; omega
  have n_rllr_rr : rllr ∉ Lrr := fun h => by have c := List.nodup_iff_count.1 hN rllr; simp only [List.count_cons, List.count_append] at c; have d := List.count_pos_iff.2 h; have d2 := List.count_pos_iff.2 mrllr; omega
  have n_rlr_l : rlr ∉ Ll := fun h => by have c := List.nodup_iff_count.1 hN rlr; simp only [List.count_cons, List.count_append] at c; have d := List.count_pos_iff.2 h; have d2 := List.count_pos_iff.2 mrlr; omega
  have n_rlr_rlll : rlr ∉ Lrlll := fun h => by have c := List.nodup_iff_count.1 hN rlr; simp only [List.count_cons, List.count_append] at c; have d := List.count_pos_iff.2 h; have d2 := List.count_pos_iff.2 mrlr; omega
  have n_rlr_rllr : rlr ∉ Lrllr := fun h => by have c := List.nodup_iff_count.1 hN rlr; simp only [List.count_cons, List.count_append] at c; have d := List.count_pos_iff.2 h; have d2 := List.count_pos_iff.2 mrlr; omega
  have n_rlr_rr : rlr ∉ Lrr := fun h => by have c := List.nodup_iff_count.1 hN rlr; simp only [List.count_cons, List.count_append] at c; have d := List.count_pos_iff.2 h; have d2 := List.count_pos_iff.2 mrlr; omega
  have n_rr_l : rr ∉ Ll := fun h => by have c := List.nodup_iff_count.1 hN rr; simp only [List.count_cons, List.count_append] at c; have d := List.count_pos_iff.2 h; have d2 := List.count_pos_iff.2 mrr; omega
  have n_rr_rlll : rr ∉ Lrlll := fun h => by have c := List.nodup_iff_count.1 hN rr; simp only [List.count_cons, List.count_append] at c; have d := List.count_pos_iff.2 h; have d2 := List.count_pos_iff.2 mrr; omega
  have n_rr_rllr : rr ∉ Lrllr := fun h => by have c := List.nodup_iff_count.1 hN rr; simp only [List.count_cons, List.count_append] at c; have d := List.count_pos_iff.2 h; have d2 := List.count_pos_iff.2 mrr; omega
  have n_rr_rlr : rr ∉ Lrlr := fun h => by have c := List.nodup_iff_count.1 hN rr; simp only [List.count_cons, List.count_append] at c; have d := List.count_pos_iff.2 h; have d2 := List.count_pos_iff.2 mrr; omega
  have e_x_r : x ≠ r := fun h => by subst h; have c := List.nodup_iff_count.1 hN x; simp only [List.count_cons, List.count_append, beq_self_eq_true, if_true] at c; omega
  have e_r_x : r ≠ x := Ne.symm e_x_r
  have e_x_rl : x ≠ rl := fun h => by subst h; have c := List.nodup_iff_count.1 hN x; simp only [List.count_cons, List.count_append, beq_self_eq_true, if_true] at c; omega
  have e_rl_x : rl ≠ x := Ne.symm e_x_rl
  have e_x_rll : x ≠ rll := fun h => by subst h; have c := List.nodup_iff_count.1 hN x; simp only [List.count_cons, List.count_append, beq_self_eq_true, if_true] at c; omega
  have e_rll_x : rll ≠ x := Ne.symm e_x_rll
  have e_x_l : x ≠ l := fun h => n_x_l (h ▸ ml)
  have e_l_x : l ≠ x := Ne.symm e_x_l
  have e_x_rlll : x ≠ rlll := fun h => n_x_rlll (h ▸ mrlll)
  have e_rlll_x : rlll ≠ x := Ne.symm e_x_rlll
  have e_x_rllr : x ≠ rllr := fun h => n_x_rllr (h ▸ mrllr)
  have e_rllr_x : rllr ≠ x := Ne.symm e_x_rllr
  have e_x_rlr : x ≠ rlr := fun h => n_x_rlr (h ▸ mrlr)
  have e_rlr_x : rlr ≠ x := Ne.symm e_x_rlr
  have e_x_rr : x ≠ rr := fun h => n_x_rr (h ▸ mrr)
  have e_rr_x : rr ≠ x := Ne.symm e_x_rr
  have e_r_rl : r ≠ rl := fun h => by subst h; have c := List.nodup_iff_count.1 hN r; simp only [List.count_cons, List.count_append, beq_self_eq_true, if_true] at c; omega
  have e_rl_r : rl ≠ r := Ne.symm e_r_rl
  have e_r_rll : r ≠ rll := fun h => by subst h; have c := List.nodup_iff_count.1 hN r; simp only [List.count_cons, List.count_append, beq_self_eq_true, if_true] at c; omega
  have e_rll_r : rll ≠ r := Ne.symm e_r_rll
  have e_r_l : r ≠ l := fun h => n_r_l (h ▸ ml)
  have e_l_r : l ≠ r := Ne.symm e_r_l
  have e_r_rlll : r ≠ rlll := fun h => n_r_rlll (h ▸ mrlll)
  have e_rlll_r : rlll ≠ r := Ne.symm e_r_rlll
  have e_r_rllr : r ≠ rllr := fun h => n_r_rllr (h ▸ mrllr)
  have e_rllr_r : rllr ≠ r := Ne.symm e_r_rllr
  have e_r_rlr : r ≠ rlr := fun h => n_r_rlr (h ▸ mrlr)
  have e_rlr_r : rlr ≠ r := Ne.symm e_r_rlr
  have e_r_rr : r ≠ rr := fun h => n_r_rr (h ▸ mrr)
  have e_rr_r : rr ≠ r := Ne.symm e_r_rr
  have e_rl_rll : rl ≠ rll := fun h => by subst h; have c := List.nodup_iff_count.1 hN rl; simp only [List.count_cons, List.count_append, beq_self_eq_true, if_true] at c; omega
  have e_rll_rl : rll ≠ rl := Ne.symm e_rl_rll
  have e_rl_l : rl ≠ l := fun h => n_rl_l (h ▸ ml)
  have e_l_rl : l ≠ rl := Ne.symm e_rl_l
  have e_rl_rlll : rl ≠ rlll := fun h => n_rl_rlll (h ▸ mrlll)
  have e_rlll_rl : rlll ≠ rl := Ne.symm e_rl_rlll
  have e_rl_rllr : rl ≠ rllr := fun h => n_rl_rllr (h ▸ mrllr)
  have e_rllr_rl : rllr ≠ rl := Ne.symm e_rl_rllr
  have e_rl_rlr : rl ≠ rlr := fun h => n_rl_rlr (h ▸ mrlr)
  have e_rlr_rl : rlr ≠ rl := Ne.symm e_rl_rlr
  have e_rl_rr : rl ≠ rr := fun h => n_rl_rr (h ▸ mrr)
  have e_rr_rl : rr ≠ rl := Ne.symm e_rl_rr
  have e_rll_l : rll ≠ l := fun h => n_rll_l (h ▸ ml)
  have e_l_rll : l ≠ rll := Ne.symm e_rll_l
  have e_rll_rlll : rll ≠ rlll := fun h => n_rll_rlll (h ▸ mrlll)
  have e_rlll_rll : rlll ≠ rll := Ne.symm e_rll_rlll
  have e_rll_rllr : rll ≠ rllr := fun h => n_rll_rllr (h ▸ mrllr)
  have e_rllr_rll : rllr ≠ rll := Ne.symm e_rll_rllr
  have e_rll_rlr : rll ≠ rlr := fun h => n_rll_rlr (h ▸ mrlr)
  have e_rlr_rll : rlr ≠ rll := Ne.symm e_rll_rlr
  have e_rll_rr : rll ≠ rr := fun h => n_rll_rr (h ▸ mrr)
  have e_rr_rll : rr ≠ rll := Ne.symm e_rll_rr
  have e_l_rlll : l ≠ rlll := fun h => n_l_rlll (h ▸ mrlll)
  have e_rlll_l : rlll ≠ l := Ne.symm e_l_rlll
  have e_l_rllr : l ≠ rllr := fun h => n_l_rllr (h ▸ mrllr)
  have e_rllr_l : rllr ≠ l := Ne.symm e_l_rllr
  have e_l_rlr : l ≠ rlr := fun h => n_l_rlr (h ▸ mrlr)
  have e_rlr_l : rlr ≠ l := Ne.symm e_l_rlr
  have e_l_rr : l ≠ rr := fun h => n_l_rr (h ▸ mrr)
  have e_rr_l : rr ≠ l := Ne.symm e_l_rr
  have e_rlll_rllr : rlll ≠ rllr := fun h => n_rlll_rllr (h ▸ mrllr)
  have e_rllr_rlll : rllr ≠ rlll := Ne.symm e_rlll_rllr
  have e_rlll_rlr : rlll ≠ rlr := fun h => n_rlll_rlr (h ▸ mrlr)
  have e_rlr_rlll : rlr ≠ rlll := Ne.symm e_rlll_rlr
  have e_rlll_rr : rlll ≠ rr := fun h => n_rlll_rr (h ▸ mrr)
  have e_rr_rlll : rr ≠ rlll := Ne.symm e_rlll_rr
  have e_rllr_rlr : rllr ≠ rlr := fun h => n_rllr_rlr (h ▸ mrlr)
  have e_rlr_rllr : rlr ≠ rllr := Ne.symm e_rllr_rlr
  have e_rllr_rr : rllr ≠ rr := fun h => n_rllr_rr (h ▸ mrr)
  have e_rr_rllr : rr ≠ rllr := Ne.symm e_rllr_rr
  have e_rlr_rr : rlr ≠ rr := fun h => n_rlr_rr (h ▸ mrr)
  have e_rr_rlr : rr ≠ rlr := Ne.symm e_rlr_rr
  have d_l : Ll.Nodup := List.nodup_iff_count.2 fun z => by have c := List.nodup_iff_count.1 hN z; simp only [List.count_cons, List.count_append] at c; omega
  have d_rlll : Lrlll.Nodup := List.nodup_iff_count.2 fun z => by have c := List.nodup_iff_count.1 hN z; simp only [List.count_cons, List.count_append] at c; omega
  have d_rllr : Lrllr.Nodup := List.nodup_iff_count.2 fun z => by have c := List.nodup_iff_count.1 hN z; simp only [List.count_cons, List.count_append] at c; omega
  have d_rlr : Lrlr.Nodup := List.nodup_iff_count.2 fun z => by have c := List.nodup_iff_count.1 hN z; simp only [List.count_cons, List.count_append] at c; omega
  have d_rr : Lrr.Nodup := List.nodup_iff_count.2 fun z => by have c := List.nodup_iff_count.1 hN z; simp only [List.count_cons, List.count_append] at c; omega
  clear hN
  have s1_l : AT (wth t l a) l (bl.wset a) (Ll) := al.wth (by (try simp only [List.mem_cons, List.mem_append, not_or]); (repeat' apply And.intro) <;> assumption)
  have s1_rlll : AT (wth t l a) rlll brlll (Lrlll) := arlll.wth_off (by (try simp only [List.mem_cons, List.mem_append, not_or]); (repeat' apply And.intro) <;> assumption)
  have s1_rllr : AT (wth t l a) rllr brllr (Lrllr) := arllr.wth_off (by (try simp only [List.mem_cons, List.mem_append, not_or]); (repeat' apply And.intro) <;> assumption)
  have s1_rlr : AT (wth t l a) rlr brlr (Lrlr) := arlr.wth_off (by (try simp only [List.mem_cons, List.mem_append, not_or]); (repeat' apply And.intro) <;> assumption)
  have s1_rr : AT (wth t l a) rr brr (Lrr) := arr.wth_off (by (try simp only [List.mem_cons, List.mem_append, not_or]); (repeat' apply And.intro) <;> assumption)
  have r1_x : ndAt (wth t l a) x = ndAt t x := (wth_ne _ _ _ _ (by (try simp only [List.mem_cons, List.mem_append, not_or]); (repeat' apply And.intro) <;> assumption)).trans rfl
  have r1_r : ndAt (wth t l a) r = ndAt t r := (wth_ne _ _ _ _ (by (try simp only [List.mem_cons, List.mem_append, not_or]); (repeat' apply And.intro) <;> assumption)).trans rfl
  have r1_rl : ndAt (wth t l a) rl = ndAt t rl := (wth_ne _ _ _ _ (by (try simp only [List.mem_cons, List.mem_append, not_or]); (repeat' apply And.intro) <;> assumption)).trans rfl
  have r1_rll : ndAt (wth t l a) rll = ndAt t rll := (wth_ne _ _ _ _ (by (try simp only [List.mem_cons, List.mem_append, not_or]); (repeat' apply And.intro) <;> assumption)).trans rfl
  have s2_rllr : AT (ovr (wth t l a) x b (l : Int) (rlll : Int)) rllr brllr (Lrllr) := s1_rllr.ovr_off (by (try simp only [List.mem_cons, List.mem_append, not_or]); (repeat' apply And.intro) <;> assumption)
  have s2_rlr : AT (ovr (wth t l a) x b (l : Int) (rlll : Int)) rlr brlr (Lrlr) := s1_rlr.ovr_off (by (try simp only [List.mem_cons, List.mem_append, not_or]); (repeat' apply And.intro) <;> assumption)
  have s2_rr : AT (ovr (wth t l a) x b (l : Int) (rlll : Int)) rr brr (Lrr) := s1_rr.ovr_off (by (try simp only [List.mem_cons, List.mem_append, not_or]); (repeat' apply And.intro) <;> assumption)
  have s2_x : AT (ovr (wth t l a) x b (l : Int) (rlll : Int)) x (.node ((ndP (ndAt t x)).w b) (bl.wset a) brlll) (x :: (Ll ++ Lrlll)) := AT.over (l := l) (r := rlll) r1_x ((show _ → _ from fun h => by rw [wth_length]; exact h) hx) s1_l s1_rlll (by (try simp only [List.mem_cons, List.mem_append, not_or]); (repeat' apply And.intro) <;> assumption) (by (try simp only [List.mem_cons, List.mem_append, not_or]); (repeat' apply And.intro) <;> assumption)
  have r2_r : ndAt (ovr (wth t l a) x b (l : Int) (rlll : Int)) r = ndAt t r := (ovr_ne _ _ _ _ _ _ (by (try simp only [List.mem_cons, List.mem_append, not_or]); (repeat' apply And.intro) <;> assumption)).trans r1_r
  have r2_rl : ndAt (ovr (wth t l a) x b (l : Int) (rlll : Int)) rl = ndAt t rl := (ovr_ne _ _ _ _ _ _ (by (try simp only [List.mem_cons, List.mem_append, not_or]); (repeat' apply And.intro) <;> assumption)).trans r1_rl
  have r2_rll : ndAt (ovr (wth t l a) x b (l : Int) (rlll : Int)) rll = ndAt t rll := (ovr_ne _ _ _ _ _ _ (by (try simp only [List.mem_cons, List.mem_append, not_or]); (repeat' apply And.intro) <;> assumption)).trans r1_rll
  have s3_rr : AT (ovr (ovr (wth t l a) x b (l : Int) (rlll : Int)) rl c (rllr : Int) (rlr : Int)) rr brr (Lrr) := s2_rr.ovr_off (by (try simp only [List.mem_cons, List.mem_append, not_or]); (repeat' apply And.intro) <;> assumption)
  have s3_x : AT (ovr (ovr (wth t l a) x b (l : Int) (rlll : Int)) rl c (rllr : Int) (rlr : Int)) x (.node ((ndP (ndAt t x)).w b) (bl.wset a) brlll) (x :: (Ll ++ Lrlll)) := s2_x.ovr_off (by (try simp only [List.mem_cons, List.mem_append, not_or]); (repeat' apply And.intro) <;> assumption)
  have s3_rl : AT (ovr (ovr (wth t l a) x b (l : Int) (rlll : Int)) rl c (rllr : Int) (rlr : Int)) rl (.node ((ndP (ndAt t rl)).w c) brllr brlr) (rl :: (Lrllr ++ Lrlr)) := AT.over (l := rllr) (r := rlr) r2_rl ((show _ → _ from fun h => by rw [ovr_length, wth_length]; exact h) hrl) s2_rllr s2_rlr (by (try simp only [List.mem_cons, List.mem_append, not_or]); (repeat' apply And.intro) <;> assumption) (by (try simp only [List.mem_cons, List.mem_append, not_or]); (repeat' apply And.intro) <;> assumption)
  have r3_r : ndAt (ovr (ovr (wth t l a) x b (l : Int) (rlll : Int)) rl c (rllr : Int) (rlr : Int)) r = ndAt t r := (ovr_ne _ _ _ _ _ _ (by (try simp only [List.mem_cons, List.mem_append, not_or]); (repeat' apply And.intro) <;> assumption)).trans r2_r
  have r3_rll : ndAt (ovr (ovr (wth t l a) x b (l : Int) (rlll : Int)) rl c (rllr : Int) (rlr : Int)) rll = ndAt t rll := (ovr_ne _ _ _ _ _ _ (by (try simp only [List.mem_cons, List.mem_append, not_or]); (repeat' apply And.intro) <;> assumption)).trans r2_rll
  have s4_rr : AT (ovr (ovr (ovr (wth t l a) x b (l : Int) (rlll : Int)) rl c (rllr : Int) (rlr : Int)) rll d (x : Int) (rl : Int)) rr brr (Lrr) := s3_rr.ovr_off (by (try simp only [List.mem_cons, List.mem_append, not_or]); (repeat' apply And.intro) <;> assumption)
  have s4_rll : AT (ovr (ovr (ovr (wth t l a) x b (l : Int) (rlll : Int)) rl c (rllr : Int) (rlr : Int)) rll d (x : Int) (rl : Int)) rll (.node ((ndP (ndAt t rll)).w d) (.node ((ndP (ndAt t x)).w b) (bl.wset a) brlll) (.node ((ndP (ndAt t rl)).w c) brllr brlr)) (rll :: ((x :: (Ll ++ Lrlll)) ++ (rl :: (Lrllr ++ Lrlr)))) := AT.over (l := x) (r := rl) r3_rll ((show _ → _ from fun h => by rw [ovr_length, ovr_length, wth_length]; exact h) hrll) s3_x s3_rl (by (try simp only [List.mem_cons, List.mem_append, not_or]); (repeat' apply And.intro) <;> assumption) (by (try simp only [List.mem_cons, List.mem_append, not_or]); (repeat' apply And.intro) <;> assumption)
  have r4_r : ndAt (ovr (ovr (ovr (wth t l a) x b (l : Int) (rlll : Int)) rl c (rllr : Int) (rlr : Int)) rll d (x : Int) (rl : Int)) r = ndAt t r := (ovr_ne _ _ _ _ _ _ (by (try simp only [List.mem_cons, List.mem_append, not_or]); (repeat' apply And.intro) <;> assumption)).trans r3_r
  have s5_r : AT (ovr (ovr (ovr (ovr (wth t l a) x b (l : Int) (rlll : Int)) rl c (rllr : Int) (rlr : Int)) rll d (x : Int) (rl : Int)) r e (rll : Int) (rr : Int)) r (.node ((ndP (ndAt t r)).w e) (.node ((ndP (ndAt t rll)).w d) (.node ((ndP (ndAt t x)).w b) (bl.wset a) brlll) (.node ((ndP (ndAt t rl)).w c) brllr brlr)) brr) (r :: ((rll :: ((x :: (Ll ++ Lrlll)) ++ (rl :: (Lrllr ++ Lrlr)))) ++ Lrr)) := AT.over (l := rll) (r := rr) r4_r ((show _ → _ from fun h => by rw [ovr_length, ovr_length, ovr_length, wth_length]; exact h) hr) s4_rll s4_rr (by (try simp only [List.mem_cons, List.mem_append, not_or]); (repeat' apply And.intro) <;> assumption) (by (try simp only [List.mem_cons, List.mem_append, not_or]); (repeat' apply And.intro) <;> assumption)
  refine ⟨by simp only [ovr_length, wth_length], ⟨_, s5_r, ?_⟩, fun p hp => ?_⟩
  · rw [List.perm_iff_count]; intro z; simp only [List.count_cons, List.count_append]; try omega
  · skip
    have p_x : p ≠ x := fun e => hp (e ▸ by simp)
    have p_r : p ≠ r := fun e => hp (e ▸ by simp)
    have p_rl : p ≠ rl := fun e => hp (e ▸ by simp)
    have p_rll : p ≠ rll := fun e => hp (e ▸ by simp)
    have p_l : p ≠ l := fun e => hp (e ▸ by simp [ml])
    have p_rlll : p ≠ rlll := fun e => hp (e ▸ by simp [mrlll])
    have p_rllr : p ≠ rllr := fun e => hp (e ▸ by simp [mrllr])
    have p_rlr : p ≠ rlr := fun e => hp (e ▸ by simp [mrlr])
    have p_rr : p ≠ rr := fun e => hp (e ▸ by simp [mrr])
    rw [ovr_ne _ _ _ _ _ _ (by assumption), ovr_ne _ _ _ _ _ _ (by assumption), ovr_ne _ _ _ _ _ _ (by assumption), ovr_ne _ _ _ _ _ _ (by assumption), wth_ne _ _ _ _ (by assumption)]
theorem bout8 {t : NL} {x r rl l rll rlr rr : Nat} {bl brll brlr brr : BT} {Ll Lrll Lrlr Lrr : List Nat} (a b c d e : Int) (hx : x < t.length) (hr : r < t.length) (hrl : rl < t.length) (al : AT t l bl Ll) (arll : AT t rll brll Lrll) (arlr : AT t rlr brlr Lrlr) (arr : AT t rr brr Lrr) (hN : (x :: (Ll ++ (r :: ((rl :: (Lrll ++ Lrlr)) ++ Lrr)))).Nodup) :
    BOut t (ovr (ovr (wth (ovr (wth t l a) x b (l : Int) (rll : Int)) rlr c) rl d (x : Int) (rlr : Int)) r e (rl : Int) (rr : Int)) (x :: (Ll ++ (r :: ((rl :: (Lrll ++ Lrlr)) ++ Lrr)))) r (.node ((ndP (ndAt t r)).w e) (.node ((ndP (ndAt t rl)).w d) (.node ((ndP (ndAt t x)).w b) (bl.wset a) brll) (brlr.wset c)) brr) := by
  have ml := al.mem
  have mrll := arll.mem
  have mrlr := arlr.mem
  have mrr := arr.mem
  have n_x_l : x ∉ Ll := fun h => by have c := List.nodup_iff_count.1 hN x; simp only [List.count_cons, List.count_append, beq_self_eq_true, if_true] at c; have d := List.count_pos_iff.2 h; omega
  have n_x_rll : x ∉ Lrll := fun h => by have c := List.nodup_iff_count.1 hN x; simp only [List.count_cons, List.count_append, beq_self_eq_true, if_true] at c; have d := List.count_pos_iff.2 h; omega
  have n_x_rlr : x ∉ Lrlr := fun h => by have c := List.nodup_iff_count.1 hN x; simp only [List.count_cons, List.count_append, beq_self_eq_true, if_true] at c; have d := List.count_pos_iff.2 h; omega
  have n_x_rr : x ∉ Lrr := fun h => by have c := List.nodup_iff_count.1 hN x; simp only [List.count_cons, List.count_append, beq_self_eq_true, if_true] at c; have d := List.count_pos_iff.2 h; omega
  have n_r_l : r ∉ Ll := fun h => by have c := List.nodup_iff_count.1 hN r; simp only [List.count_cons, List.count_append, beq_self_eq_true, if_true] at c; have d := List.count_pos_iff.2 h; omega
  have n_r_rll : r ∉ Lrll := fun h => by have c := List.nodup_iff_count.1 hN r; simp only [List.count_cons, List.count_append, beq_self_eq_true, if_true] at c; have d := List.count_pos_iff.2 h; omega
  have n_r_rlr : r ∉ Lrlr := fun h => by have c := List.nodup_iff_count.1 hN r; simp only [List.count_cons, List.count_append, beq_self_eq_true, if_true] at c; have d := List.count_pos_iff.2 h; omega
  have n_r_rr : r ∉ Lrr := fun h => by have c := List.nodup_iff_count.1 hN r; simp only [List.count_cons, List.count_append, beq_self_eq_true, if_true] at c; have d := List.count_pos_iff.2 h; omega
  have n_rl_l : rl ∉ Ll := fun h => by have c := List.nodup_iff_count.1 hN rl; simp only [List.count_cons, List.count_append, beq_self_eq_true, if_true] at c; have d := List.count_pos_iff.2 h; omega
  have n_rl_rll : rl ∉ Lrll := fun h => by have c := List.nodup_iff_count.1 hN rl; simp only [List.count_cons, List.count_append, beq_self_eq_true, if_true] at c; have d := List.count_pos_iff.2 h; omega
  have n_rl_rlr : rl ∉ Lrlr := fun h => by have c := List.nodup_iff_count.1 hN rl; simp only [List.count_cons, List.count_append, beq_self_eq_true, if_true] at c; have d := List.count_pos_iff.2 h; omega
  have n_rl_rr : rl ∉ Lrr := fun h => by have c := List.nodup_iff_count.1 hN rl; simp only [List.count_cons, List.count_append, beq_self_eq_true, if_true] at c; have d := List.count_pos_iff.2 h; omega
  have n_l_rll : l ∉ Lrll := fun h => by have c := List.nodup_iff_count.1 hN l; simp only [List.count_cons, List.count_append] at c; have d := List.count_pos_iff.2 h; have d2 := List.count_pos_iff.2 ml; omega
  have n_l_rlr : l ∉ Lrlr := fun h => by have c := List.nodup_iff_count.1 hN l; simp only [List.count_cons, List.count_append] at c; have d := List.count_pos_iff.2 h; have d2 := List.count_pos_iff.2 ml; omega
  have n_l_rr : l ∉ Lrr := fun h => by have c := List.nodup_iff_count.1 hN l; simp only [List.count_cons, List.count_append] at c; have d := List.count_pos_iff.2 h; have d2 := List.count_pos_iff.2 ml; omega
  have n_rll_l : rll ∉ Ll := fun h => by have c := List.nodup_iff_count.1 hN rll; simp only [List.count_cons, List.count_append] at c; have d := List.count_pos_iff.2 h; have d2 := List.count_pos_iff.2 mrll; omega
  have n_rll_rlr : rll ∉ Lrlr := fun h => by have c := List.nodup_iff_count.1 hN rll; simp only [List.count_cons, List.count_append] at c; have d := List.count_pos_iff.2 h; have d2 := List.count_pos_iff.2 mrll; omega
  have n_rll_rr : rll ∉ Lrr := fun h => by have c := List.nodup_iff_count.1 hN rll; simp only [List.count_cons, List.count_append] at c; have d := List.count_pos_iff.2 h; have d2 := List.count_pos_iff.2 mrll; omega
  have n_rlr_l : rlr ∉ Ll := fun h => by have c := List.nodup_iff_count.1 hN rlr; simp only [List.count_cons, List.count_append] at c; have d := List.count_pos_iff.2 h; have d2 := List.count_pos_iff.2 mrlr; omega
  have n_rlr_rll : rlr ∉ Lrll := fun h => by have c := List.nodup_iff_count.1 hN rlr; simp only [List.count_cons, List.count_append] at c; have d := List.count_pos_iff.2 h; have d2 := List.count_pos_iff.2 mrlr; omega
  have n_rlr_rr : rlr ∉ Lrr := fun h => by have c := List.nodup_iff_count.1 hN rlr; simp only [List.count_cons, List.count_append] at c; have d := List.count_pos_iff.2 h; have d2 := List.count_pos_iff.2 mrlr; omega
  have n_rr_l : rr ∉ Ll := fun h => by have c := List.nodup_iff_count.1 hN rr; simp only [List.count_cons, List.count_append] at c; have d := List.count_pos_iff.2 h; have d2 := List.count_pos_iff.2 mrr; omega
  have n_rr_rll : rr ∉ Lrll := fun h => by have c := List.nodup_iff_count.1 hN rr; simp only [List.count_cons, List.count_append] at c; have d := List.count_pos_iff.2 h; have d2 := List.count_pos_iff.2 mrr; omega
  have n_rr_rlr : rr ∉ Lrlr := fun h => by have c := List.nodup_iff_count.1 hN rr; simp only [List.count_cons, List.count_append] at c; have d := List.count_pos_iff.2 h; have d2 := List.count_pos_iff.2 mrr; omega
  have e_x_r : x ≠ r := fun h => by subst h; have c := List.nodup_iff_count.1 hN x; simp only [List.count_cons, List.count_append, beq_self_eq_true, if_true] at c; omega
  have e_r_x : r ≠ x := Ne.symm e_x_r
  have e_x_rl : x ≠ rl := fun h => by subst h; have c := List.nodup_iff_count.1 hN x; simp only [List.count_cons, List.count_append, beq_self_eq_true, if_true] at c; omega
  have e_rl_x : rl ≠ x := Ne.symm e_x_rl
  have e_x_l : x ≠ l := fun h => n_x_l (h ▸ ml)
  have e_l_x : l ≠ x := Ne.symm e_x_l
  have e_x_rll : x ≠ rll := fun h => n_x_rll (h ▸ mrll)
  have e_rll_x : rll ≠ x := Ne.symm e_x_rll
  have e_x_rlr : x ≠ rlr := fun h => n_x_rlr (h ▸ mrlr)
  have e_rlr_x : rlr ≠ x := Ne.symm e_x_rlr
  have e_x_rr : x ≠ rr := fun h => n_x_rr (h ▸ mrr)
  have e_rr_x : rr ≠ x := Ne.symm e_x_rr
  have e_r_rl : r ≠ rl := fun h => by subst h; have c := List.nodup_iff_count.1 hN r; simp only [List.count_cons, List.count_append, beq_self_eq_true, if_true] at c; omega
  have e_rl_r : rl ≠ r := Ne.symm e_r_rl
  have e_r_l : r ≠ l := fun h => n_r_l (h ▸ ml)
  have e_l_r : l ≠ r := Ne.symm e_r_l
  have e_r_rll : r ≠ rll := fun h => n_r_rll (h ▸ mrll)
  have e_rll_r : rll ≠ r := Ne.symm e_r_rll
  have e_r_rlr : r ≠ rlr := fun h => n_r_rlr (h ▸ mrlr)
  have e_rlr_r : rlr ≠ r := Ne.symm e_r_rlr
  have e_r_rr : r ≠ rr := fun h => n_r_rr (h ▸ mrr)
  have e_rr_r : rr ≠ r := Ne.symm e_r_rr
  have e_rl_l : rl ≠ l := fun h => n_rl_l (h ▸ ml)
  have e_l_rl : l ≠ rl := Ne.symm e_rl_l
  have e_rl_rll : rl ≠ rll := fun h => n_rl_rll (h ▸ mrll)
  have e_rll_rl : rll ≠ rl := Ne.symm e_rl_rll
  have e_rl_rlr : rl ≠ rlr := fun h => n_rl_rlr (h ▸ mrlr)
  have e_rlr_rl : rlr ≠ rl := Ne.symm e_rl_rlr
  have e_rl_rr : rl ≠ rr := fun h => n_rl_rr (h ▸ mrr)
  have e_rr_rl : rr ≠ rl := Ne.symm e_rl_rr
  have e_l_rll : l ≠ rll := fun h => n_l_rll (h ▸ mrll)
  have e_rll_l : rll ≠ l := Ne.symm e_l_rll
  have e_l_rlr : l ≠ rlr := fun h => n_l_rlr (h ▸ mrlr)
  have e_rlr_l : rlr ≠ l := Ne.symm e_l_rlr
  have e_l_rr : l ≠ rr := fun h => n_l_rr (h ▸ mrr)
  have e_rr_l : rr ≠ l := Ne.symm e_l_rr
  have e_rll_rlr : rll ≠ rlr := fun h => n_rll_rlr (h ▸ mrlr)
  have e_rlr_rll : rlr ≠ rll := Ne.symm e_rll_rlr
  have e_rll_rr : rll ≠ rr := fun h => n_rll_rr (h ▸ mrr)
  have e_rr_rll : rr ≠ rll := Ne.symm e_rll_rr
  have e_rlr_rr : rlr ≠ rr := fun h => n_rlr_rr (h ▸ mrr)
  have e_rr_rlr : rr ≠ rlr := Ne.symm e_rlr_rr
  have d_l : Ll.Nodup := List.nodup_iff_count.2 fun z => by have c := List.nodup_iff_count.1 hN z; simp only [List.count_cons, List.count_append] at c; omega
  have d_rll : Lrll.Nodup := List.nodup_iff_count.2 fun z => by have c := List.nodup_iff_count.1 hN z; simp only [List.count_cons, List.count_append] at c; omega
  have d_rlr : Lrlr.Nodup := List.nodup_iff_count.2 fun z => by have c := List.nodup_iff_count.1 hN z; simp only [List.count_cons, List.count_append] at c; omega
  have d_rr : Lrr.Nodup := List.nodup_iff_count.2 fun z => by have c := List.nodup_iff_count.1 hN z; simp only [List.count_cons, List.count_append] at c; omega
  clear hN
  have s1_l : AT (wth t l a) l (bl.wset a) (Ll) := al.wth (by (try simp only [List.mem_cons, List.mem_append, not_or]); (repeat' apply And.intro) <;> assumption)
  have s1_rll : AT (wth t l a) rll brll (Lrll) := arll.wth_off (by (try simp only [List.mem_cons, List.mem_append, not_or]); (repeat' apply And.intro) <;> assumption)
  have s1_rlr : AT (wth t l a) rlr brlr (Lrlr) := arlr.wth_off (by (try simp only [List.mem_cons, List.mem_append, not_or]); (repeat' apply And.intro) <;> assumption)
  have s1_rr : AT (wth t l a) rr brr (Lrr) := arr.wth_off (by (try simp only [List.mem_cons, List.mem_append, not_or]); (repeat' apply And.intro) <;> assumption)
  have r1_x : ndAt (wth t l a) x = ndAt t x := (wth_ne _ _ _ _ (by (try simp only [List.mem_cons, List.mem_append, not_or]); (repeat' apply And.intro) <;> assumption)).trans rfl
  have r1_r : ndAt (wth t l a) r = ndAt t r := (wth_ne _ _ _ _ (by (try simp only [List.mem_cons, List.mem_append, not_or]); (repeat' apply And.intro) <;> assumption)).trans rfl
  have r1_rl : ndAt (wth t l a) rl = ndAt t rl := (wth_ne _ _ _ _ (by (try simp only [List.mem_cons, List.mem_append, not_or]); (repeat' apply And.intro) <;> assumption)).trans rfl
  have s2_rlr : AT (ovr (wth t l a) x b (l : Int) (rll : Int)) rlr brlr (Lrlr) := s1_rlr.ovr_off (by (try simp only [List.mem_cons, List.mem_append, not_or]); (repeat' apply And.intro) <;> assumption)
  have s2_rr : AT (ovr (wth t l a) x b (l : Int) (rll : Int)) rr brr (Lrr) := s1_rr.ovr_off (by (try simp only [List.mem_cons, List.mem_append, not_or]); (repeat' apply And.intro) <;> assumption)
  have s2_x : AT (ovr (wth t l a) x b (l : Int) (rll : Int)) x (.node ((ndP (ndAt t x)).w b) (bl.wset a) brll) (x :: (Ll ++ Lrll)) := AT.over (l := l) (r := rll) r1_x ((show _ → _ from fun h => by rw [wth_length]; exact h) hx) s1_l s1_rll (by (try simp only [List.mem_cons, List.mem_append, not_or]); (repeat' apply And.intro) <;> assumption) (by (try simp only [List.mem_cons, List.mem_append, not_or]); (repeat' apply And.intro) <;> assumption)
  have r2_r : ndAt (ovr (wth t l a) x b (l : Int) (rll : Int)) r = ndAt t r := (ovr_ne _ _ _ _ _ _ (by (try simp only [List.mem_cons, List.mem_append, not_or]); (repeat' apply And.intro) <;> assumption)).trans r1_r
  have r2_rl : ndAt (ovr (wth t l a) x b (l : Int) (rll : Int)) rl = ndAt t rl := (ovr_ne _ _ _ _ _ _ (by (try simp only [List.mem_cons, List.mem_append, not_or]); (repeat' apply And.intro) <;> assumption)).trans r1_rl
  have s3_rlr : AT (wth (ovr (wth t l a) x b (l : Int) (rll : Int)) rlr c) rlr (brlr.wset c) (Lrlr) := s2_rlr.wth (by (try simp only [List.mem_cons, List.mem_append, not_or]); (repeat' apply And.intro) <;> assumption)
  have s3_rr : AT (wth (ovr (wth t l a) x b (l : Int) (rll : Int)) rlr c) rr brr (Lrr) := s2_rr.wth_off (by (try simp only [List.mem_cons, List.mem_append, not_or]); (repeat' apply And.intro) <;> assumption)
  have s3_x : AT (wth (ovr (wth t l a) x b (l : Int) (rll : Int)) rlr c) x (.node ((ndP (ndAt t x)).w b) (bl.wset a) brll) (x :: (Ll ++ Lrll)) := s2_x.wth_off (by (try simp only [List.mem_cons, List.mem_append, not_or]); (repeat' apply And.intro) <;> assumption)
  have r3_r : ndAt (wth (ovr (wth t l a) x b (l : Int) (rll : Int)) rlr c) r = ndAt t r := (wth_ne _ _ _ _ (by (try simp only [List.mem_cons, List.mem_append, not_or]); (repeat' apply And.intro) <;> assumption)).trans r2_r
  have r3_rl : ndAt (wth (ovr (wth t l a) x b (l : Int) (rll : Int)) rlr c) rl = ndAt t rl := (wth_ne _ _ _ _ (by (try simp only [List.mem_cons, List.mem_append, not_or]); (repeat' apply And.intro) <;> assumption)).trans r2_rl
  have s4_rr : AT (ovr (wth (ovr (wth t l a) x b (l : Int) (rll : Int)) rlr c) rl d (x : Int) (rlr : Int)) rr brr (Lrr) := s3_rr.ovr_off (by (try simp only [List.mem_cons, List.mem_append, not_or]); (repeat' apply And.intro) <;> assumption)
  have s4_rl : AT (ovr (wth (ovr (wth t l a) x b (l : Int) (rll : Int)) rlr c) rl d (x : Int) (rlr : Int)) rl (.node ((ndP (ndAt t rl)).w d) (.node ((ndP (ndAt t x)).w b) (bl.wset a) brll) (brlr.wset c)) (rl :: ((x :: (Ll ++ Lrll)) ++ Lrlr)) := AT.over (l := x) (r := rlr) r3_rl ((show _ → _ from fun h => by rw [wth_length, ovr_length, wth_length]; exact h) hrl) s3_x s3_rlr (by (try simp only [List.mem_cons, List.mem_append, not_or]); (repeat' apply And.intro) <;> assumption) (by (try simp only [List.mem_cons, List.mem_append, not_or]); (repeat' apply And.intro) <;> assumption)
  have r4_r : ndAt (ovr (wth (ovr (wth t l a) x b (l : Int) (rll : Int)) rlr c) rl d (x : Int) (rlr : Int)) r = ndAt t r := (ovr_ne _ _ _ _ _ _ (by (try simp only [List.mem_cons, List.mem_append, not_or]); (repeat' apply And.intro) <;> assumption)).trans r3_r
  have s5_r : AT (ovr (ovr (wth (ovr (wth t l a) x b (l : Int) (rll : Int)) rlr c) rl d (x : Int) (rlr : Int)) r e (rl : Int) (rr : Int)) r (.node ((ndP (ndAt t r)).w e) (.node ((ndP (ndAt t rl)).w d) (.node ((ndP (ndAt t x)).w b) (bl.wset a) brll) (brlr.wset c)) brr) (r :: ((rl :: ((x :: (Ll ++ Lrll)) ++ Lrlr)) ++ Lrr)) := AT.over (l := rl) (r := rr) r4_r ((show _ → _ from fun h => by rw [ovr_length, wth_length, ovr_length, wth_length]; exact h) hr) s4_rl s4_rr (by (try simp only [List.mem_cons, List.mem_append, not_or]); (repeat' apply And.intro) <;> assumption) (by (try simp only [List.mem_cons, List.mem_append, not_or]); (repeat' apply And.intro) <;> assumption)
  refine ⟨by simp only [ovr_length, wth_length], ⟨_, s5_r, ?_⟩, fun p hp => ?_⟩
  · rw [List.perm_iff_count]; intro z; simp only [List.count_cons, List.count_append]; try omega
  · skip
    have p_x : p ≠ x := fun e => hp (e ▸ by simp)
    have p_r : p ≠ r := fun e => hp (e ▸ by simp)
    have p_rl : p ≠ rl := fun e => hp (e ▸ by simp)
    have p_l : p ≠ l := fun e => hp (e ▸ by simp [ml])
    have p_rll : p ≠ rll := fun e => hp (e ▸ by simp [mrll])
    have p_rlr : p ≠ rlr := fun e => hp (e ▸ by simp [mrlr])
    have p_rr : p ≠ rr := fun e => hp (e ▸ by simp [mrr])
    rw [ovr_ne _ _ _ _ _ _ (by assumption), ovr_ne _ _ _ _ _ _ (by assumption), wth_ne _ _ _ _ (by assumption), ovr_ne _ _ _ _ _ _ (by assumption), wth_ne _ _ _ _ (by assumption)]
theorem bout9 {t : NL} {x r l rl rr : Nat} {bl brl brr : BT} {Ll Lrl Lrr : List Nat} (a b c d : Int) (hx : x < t.length) (hr : r < t.length) (al : AT t l bl Ll) (arl : AT t rl brl Lrl) (arr : AT t rr brr Lrr) (hN : (x :: (Ll ++ (r :: (Lrl ++ Lrr)))).Nodup) :
    BOut t (ovr (wth (ovr (wth t l a) x b (l : Int) (rl : Int)) rr c) r d (x : Int) (rr : Int)) (x :: (Ll ++ (r :: (Lrl ++ Lrr)))) r (.node ((ndP (ndAt t r)).w d) (.node ((ndP (ndAt t x)).w b) (bl.wset a) brl) (brr.wset c)) := by
  have ml := al.mem
  have mrl := arl.mem
  have mrr := arr.mem
  have n_x_l : x ∉ Ll := fun h => by have c := List.nodup_iff_count.1 hN x; simp only [List.count_cons, List.count_append, beq_self_eq_true, if_true] at c; have d := List.count_pos_iff.2 h; omega
  have n_x_rl : x ∉ Lrl := fun h => by have c := List.nodup_iff_count.1 hN x; simp only [List.count_cons, List.count_append, beq_self_eq_true, if_true] at c; have d := List.count_pos_iff.2 h; omega
  have n_x_rr : x ∉ Lrr := fun h => by have c := List.nodup_iff_count.1 hN x; simp only [List.count_cons, List.count_append, beq_self_eq_true, if_true] at c; have d := List.count_pos_iff.2 h; omega
  have n_r_l : r ∉ Ll := fun h => by have c := List.nodup_iff_count.1 hN r; simp only [List.count_cons, List.count_append, beq_self_eq_true, if_true] at c; have d := List.count_pos_iff.2 h; omega
  have n_r_rl : r ∉ Lrl := fun h => by have c := List.nodup_iff_count.1 hN r; simp only [List.count_cons, List.count_append, beq_self_eq_true, if_true] at c; have d := List.count_pos_iff.2 h; omega
  have n_r_rr : r ∉ Lrr := fun h => by have c := List.nodup_iff_count.1 hN r; simp only [List.count_cons, List.count_append, beq_self_eq_true, if_true] at c; have d := List.count_pos_iff.2 h; omega
  have n_l_rl : l ∉ Lrl := fun h => by have c := List.nodup_iff_count.1 hN l; simp only [List.count_cons, List.count_append] at c; have d := List.count_pos_iff.2 h; have d2 := List.count_pos_iff.2 ml; omega
  have n_l_rr : l ∉ Lrr := fun h => by have c := List.nodup_iff_count.1 hN l; simp only [List.count_cons, List.count_append] at c; have d := List.count_pos_iff.2 h; have d2 := List.count_pos_iff.2 ml; omega
  have n_rl_l : rl ∉ Ll := fun h => by have c := List.nodup_iff_count.1 hN rl; simp only [List.count_cons, List.count_append] at c; have d := List.count_pos_iff.2 h; have d2 := List.count_pos_iff.2 mrl; omega
  have n_rl_rr : rl ∉ Lrr := fun h => by have c := List.nodup_iff_count.1 hN rl; simp only [List.count_cons, List.count_append] at c; have d := List.count_pos_iff.2 h; have d2 := List.count_pos_iff.2 mrl; omega
  have n_rr_l : rr ∉ Ll := fun h => by have c := List.nodup_iff_count.1 hN rr; simp only [List.count_cons, List.count_append] at c; have d := List.count_pos_iff.2 h; have d2 := List.count_pos_iff.2 mrr; omega
  have n_rr_rl : rr ∉ Lrl := fun h => by have c := List.nodup_iff_count.1 hN rr; simp only [List.count_cons, List.count_append] at c; have d := List.count_pos_iff.2 h; have d2 := List.count_pos_iff.2 mrr; omega
  have e_x_r : x ≠ r := fun h => by subst h; have c := List.nodup_iff_count.1 hN x; simp only [List.count_cons, List.count_append, beq_self_eq_true, if_true] at c; omega
  have e_r_x : r ≠ x := Ne.symm e_x_r
  have e_x_l : x ≠ l := fun h => n_x_l (h ▸ ml)
  have e_l_x : l ≠ x := Ne.symm e_x_l
  have e_x_rl : x ≠ rl := fun h => n_x_rl (h ▸ mrl)
  have e_rl_x : rl ≠ x := Ne.symm e_x_rl
  have e_x_rr : x ≠ rr := fun h => n_x_rr (h ▸ mrr)
  have e_rr_x : rr ≠ x := Ne.symm e_x_rr
  have e_r_l : r ≠ l := fun h => n_r_l (h ▸ ml)
  have e_l_r : l ≠ r := Ne.symm e_r_l
  have e_r_rl : r ≠ rl := fun h => n_r_rl (h ▸ mrl)
  have e_rl_r : rl ≠ r := Ne.symm e_r_rl
  have e_r_rr : r ≠ rr := fun h => n_r_rr (h ▸ mrr)
  have e_rr_r : rr ≠ r := Ne.symm e_r_rr
  have e_l_rl : l ≠ rl := fun h => n_l_rl (h ▸ mrl)
  have e_rl_l : rl ≠ l := Ne.symm e_l_rl
  have e_l_rr : l ≠ rr := fun h => n_l_rr (h ▸ mrr)
  have e_rr_l : rr ≠ l := Ne.symm e_l_rr
  have e_rl_rr : rl ≠ rr := fun h => n_rl_rr (h ▸ mrr)
  have e_rr_rl : rr ≠ rl := Ne.symm e_rl_rr
  have d_l : Ll.Nodup := List.nodup_iff_count.2 fun z => by have c := List.nodup_iff_count.1 hN z; simp only [List.count_cons, List.count_append] at c; omega
  have d_rl : Lrl.Nodup := List.nodup_iff_count.2 fun z => by have c := List.nodup_iff_count.1 hN z; simp only [List.count_cons, List.count_append] at c; omega
  have d_rr : Lrr.Nodup := List.nodup_iff_count.2 fun z => by have c := List.nodup_iff_count.1 hN z; simp only [List.count_cons, List.count_append] at c; omega
  clear hN
  have s1_l : AT (wth t l a) l (bl.wset a) (Ll) := al.wth (by (try simp only [List.mem_cons, List.mem_append, not_or]); (repeat' apply And.intro) <;> assumption)
  have s1_rl : AT (wth t l a) rl brl (Lrl) := arl.wth_off (by (try simp only [List.mem_cons, List.mem_append, not_or]); (repeat' apply And.intro) <;> assumption)
  have s1_rr : AT (wth t l a) rr brr (Lrr) := arr.wth_off (by (try simp only [List.mem_cons, List.mem_append, not_or]); (repeat' apply And.intro) <;> assumption)
  have r1_x : ndAt (wth t l a) x = ndAt t x := (wth_ne _ _ _ _ (by (try simp only [List.mem_cons, List.mem_append, not_or]); (repeat' apply And.intro) <;> assumption)).trans rfl
  have r1_r : ndAt (wth t l a) r = ndAt t r := (wth_ne _ _ _ _ (by (try simp only [List.mem_cons, List.mem_append, not_or]); (repeat' apply And.intro) <;> assumption)).trans rfl
  have s2_rr : AT (ovr (wth t l a) x b (l : Int) (rl : Int)) rr brr (Lrr) := s1_rr.ovr_off (by (try simp only [List.mem_cons, List.mem_append, not_or]); (repeat' apply And.intro) <;> assumption)
  have s2_x : AT (ovr (wth t l a) x b (l : Int) (rl : Int)) x (.node ((ndP (ndAt t x)).w b) (bl.wset a) brl) (x :: (Ll ++ Lrl)) := AT.over (l := l) (r := rl) r1_x ((show _ → _ from fun h => by rw [wth_length]; exact h) hx) s1_l s1_rl (by (try simp only [List.mem_cons, List.mem_append, not_or]); (repeat' apply And.intro) <;> assumption) (by (try simp only [List.mem_cons, List.mem_append, not_or]); (repeat' apply And.intro) <;> assumption)
  have r2_r : ndAt (ovr (wth t l a) x b (l : Int) (rl : Int)) r = ndAt t r := (ovr_ne _ _ _ _ _ _ (by (try simp only [List.mem_cons, List.mem_append, not_or]); (repeat' apply And.intro) <;> assumption)).trans r1_r
  have s3_rr : AT (wth (ovr (wth t l a) x b (l : Int) (rl : Int)) rr c) rr (brr.wset c) (Lrr) := s2_rr.wth (by (try simp only [List.mem_cons, List.mem_append, not_or]); (repeat' apply And.intro) <;> assumption)
  have s3_x : AT (wth (ovr (wth t l a) x b (l : Int) (rl : Int)) rr c) x (.node ((ndP (ndAt t x)).w b) (bl.wset a) brl) (x :: (Ll ++ Lrl)) := s2_x.wth_off (by (try simp only [List.mem_cons, List.mem_append, not_or]); (repeat' apply And.intro) <;> assumption)
  have r3_r : ndAt (wth (ovr (wth t l a) x b (l : Int) (rl : Int)) rr c) r = ndAt t r := (wth_ne _ _ _ _ (by (try simp only [List.mem_cons, List.mem_append, not_or]); (repeat' apply And.intro) <;> assumption)).trans r2_r
  have s4_r : AT (ovr (wth (ovr (wth t l a) x b (l : Int) (rl : Int)) rr c) r d (x : Int) (rr : Int)) r (.node ((ndP (ndAt t r)).w d) (.node ((ndP (ndAt t x)).w b) (bl.wset a) brl) (brr.wset c)) (r :: ((x :: (Ll ++ Lrl)) ++ Lrr)) := AT.over (l := x) (r := rr) r3_r ((show _ → _ from fun h => by rw [wth_length, ovr_length, wth_length]; exact h) hr) s3_x s3_rr (by (try simp only [List.mem_cons, List.mem_append, not_or]); (repeat' apply And.intro) <;> assumption) (by (try simp only [List.mem_cons, List.mem_append, not_or]); (repeat' apply And.intro) <;> assumption)
  refine ⟨by simp only [ovr_length, wth_length], ⟨_, s4_r, ?_⟩, fun p hp => ?_⟩
  · rw [List.perm_iff_count]; intro z; simp only [List.count_cons, List.count_append]; try omega
  · skip
    have p_x : p ≠ x := fun e => hp (e ▸ by simp)
    have p_r : p ≠ r := fun e => hp (e ▸ by simp)
    have p_l : p ≠ l := fun e => hp (e ▸ by simp [ml])
    have p_rl : p ≠ rl := fun e => hp (e ▸ by simp [mrl])
    have p_rr : p ≠ rr := fun e => hp (e ▸ by simp [mrr])
    rw [ovr_ne _ _ _ _ _ _ (by assumption), wth_ne _ _ _ _ (by assumption), ovr_ne _ _ _ _ _ _ (by assumption), wth_ne _ _ _ _ (by assumption)]
theorem bout10 {t : NL} {x r rl l rll rlr rr : Nat} {bl brll brlr brr : BT} {Ll Lrll Lrlr Lrr : List Nat} (a b c d : Int) (hx : x < t.length) (hr : r < t.length) (hrl : rl < t.length) (al : AT t l bl Ll) (arll : AT t rll brll Lrll) (arlr : AT t rlr brlr Lrlr) (arr : AT t rr brr Lrr) (hN : (x :: (Ll ++ (r :: ((rl :: (Lrll ++ Lrlr)) ++ Lrr)))).Nodup) :
    BOut t (ovr (ovr (ovr (wth t l a) x b (l : Int) (rll : Int)) r c (rlr : Int) (rr : Int)) rl d (x : Int) (r : Int)) (x :: (Ll ++ (r :: ((rl :: (Lrll ++ Lrlr)) ++ Lrr)))) rl (.node ((ndP (ndAt t rl)).w d) (.node ((ndP (ndAt t x)).w b) (bl.wset a) brll) (.node ((ndP (ndAt t r)).w c) brlr brr)) := by
  have ml := al.mem
  have mrll := arll.mem
  have mrlr := arlr.mem
  have mrr := arr.mem
  have n_x_l : x ∉ Ll := fun h => by have c := List.nodup_iff_count.1 hN x; simp only [List.count_cons, List.count_append, beq_self_eq_true, if_true] at c; have d := List.count_pos_iff.2 h; omega
  have n_x_rll : x ∉ Lrll := fun h => by have c := List.nodup_iff_count.1 hN x; simp only [List.count_cons, List.count_append, beq_self_eq_true, if_true] at c; have d := List.count_pos_iff.2 h; omega
  have n_x_rlr : x ∉ Lrlr := fun h => by have c := List.nodup_iff_count.1 hN x; simp only [List.count_cons, List.count_append, beq_self_eq_true, if_true] at c; have d := List.count_pos_iff.2 h; omega
  have n_x_rr : x ∉ Lrr := fun h => by have c := List.nodup_iff_count.1 hN x; simp only [List.count_cons, List.count_append, beq_self_eq_true, if_true] at c; have d := List.count_pos_iff.2 h; omega
  have n_r_l : r ∉ Ll := fun h => by have c := List.nodup_iff_count.1 hN r; simp only [List.count_cons, List.count_append, beq_self_eq_true, if_true] at c; have d := List.count_pos_iff.2 h; omega
  have n_r_rll : r ∉ Lrll := fun h => by have c := List.nodup_iff_count.1 hN r; simp only [List.count_cons, List.count_append, beq_self_eq_true, if_true] at c; have d := List.count_pos_iff.2 h; omega
  have n_r_rlr : r ∉ Lrlr := fun h => by have c := List.nodup_iff_count.1 hN r; simp only [List.count_cons, List.count_append, beq_self_eq_true, if_true] at c; have d := List.count_pos_iff.2 h; omega
  have n_r_rr : r ∉ Lrr := fun h => by have c := List.nodup_iff_count.1 hN r; simp only [List.count_cons, List.count_append, beq_self_eq_true, if_true] at c; have d := List.count_pos_iff.2 h; omega
  have n_rl_l : rl ∉ Ll := fun h => by have c := List.nodup_iff_count.1 hN rl; simp only [List.count_cons, List.count_append, beq_self_eq_true, if_true] at c; have d := List.count_pos_iff.2 h; omega
  have n_rl_rll : rl ∉ Lrll := fun h => by have c := List.nodup_iff_count.1 hN rl; simp only [List.count_cons, List.count_append, beq_self_eq_true, if_true] at c; have d := List.count_pos_iff.2 h; omega
  have n_rl_rlr : rl ∉ Lrlr := fun h => by have c := List.nodup_iff_count.1 hN rl; simp only [List.count_cons, List.count_append, beq_self_eq_true, if_true] at c; have d := List.count_pos_iff.2 h; omega
  have n_rl_rr : rl ∉ Lrr := fun h => by have c := List.nodup_iff_count.1 hN rl; simp only [List.count_cons, List.count_append, beq_self_eq_true, if_true] at c; have d := List.count_pos_iff.2 h; omega
  have n_l_rll : l ∉ Lrll := fun h => by have c := List.nodup_iff_count.1 hN l; simp only [List.count_cons, List.count_append] at c; have d := List.count_pos_iff.2 h; have d2 := List.count_pos_iff.2 ml; omega
  have n_l_rlr : l ∉ Lrlr := fun h => by have c := List.nodup_iff_count.1 hN l; simp only [List.count_cons, List.count_append] at c; have d := List.count_pos_iff.2 h; have d2 := List.count_pos_iff.2 ml; omega
  have n_l_rr : l ∉ Lrr := fun h => by have c := List.nodup_iff_count.1 hN l; simp only [List.count_cons, List.count_append] at c; have d := List.count_pos_iff.2 h; have d2 := List.count_pos_iff.2 ml; omega
  have n_rll_l : rll ∉ Ll := fun h => by have c := List.nodup_iff_count.1 hN rll; simp only [List.count_cons, List.count_append] at c; have d := List.count_pos_iff.2 h; have d2 := List.count_pos_iff.2 mrll; omega
  have n_rll_rlr : rll ∉ Lrlr := fun h => by have c := List.nodup_iff_count.1 hN rll; simp only [List.count_cons, List.count_append] at c; have d := List.count_pos_iff.2 h; have d2 := List.count_pos_iff.2 mrll; omega
  have n_rll_rr : rll ∉ Lrr := fun h => by have c := List.nodup_iff_count.1 hN rll; simp only [List.count_cons, List.count_append] at c; have d := List.count_pos_iff.2 h; have d2 := List.count_pos_iff.2 mrll; omega
  have n_rlr_l : rlr ∉ Ll := fun h => by have c := List.nodup_iff_count.1 hN rlr; simp only [List.count_cons, List.count_append] at c; have d := List.count_pos_iff.2 h; have d2 := List.count_pos_iff.2 mrlr; omega
  have n_rlr_rll : rlr ∉ Lrll := fun h => by have c := List.nodup_iff_count.1 hN rlr; simp only [List.count_cons, List.count_append] at c; have d := List.count_pos_iff.2 h; have d2 := List.count_pos_iff.2 mrlr; omega
  have n_rlr_rr : rlr ∉ Lrr := fun h => by have c := List.nodup_iff_count.1 hN rlr; simp only [List.count_cons, List.count_append] at c; have d := List.count_pos_iff.2 h; have d2 := List.count_pos_iff.2 mrlr; omega
  have n_rr_l : rr ∉ Ll := fun h => by have c := List.nodup_iff_count.1 hN rr; simp only [List.count_cons, List.count_append] at c; have d := List.count_pos_iff.2 h; have d2 := List.count_pos_iff.2 mrr; omega
  have n_rr_rll : rr ∉ Lrll := fun h => by have c := List.nodup_iff_count.1 hN rr; simp only [List.count_cons, List.count_append] at c; have d := List.count_pos_iff.2 h; have d2 := List.count_pos_iff.2 mrr; omega
  have n_rr_rlr : rr ∉ Lrlr := fun h => by have c := List.nodup_iff_count.1 hN rr; simp only [List.count_cons, List.count_append] at c; have d := List.count_pos_iff.2 h; have d2 := List.count_pos_iff.2 mrr; omega
  have e_x_r : x ≠ r := fun h => by subst h; have c := List.nodup_iff_count.1 hN x; simp only [List.count_cons, List.count_append, beq_self_eq_true, if_true] at c; omega
  have e_r_x : r ≠ x := Ne.symm e_x_r
  have e_x_rl : x ≠ rl := fun h => by subst h; have c := List.nodup_iff_count.1 hN x; simp only [List.count_cons, List.count_append, beq_self_eq_true, if_true] at c; omega
  have e_rl_x : rl ≠ x := Ne.symm e_x_rl
  have e_x_l : x ≠ l := fun h => n_x_l (h ▸ ml)
  have e_l_x : l ≠ x := Ne.symm e_x_l
  have e_x_rll : x ≠ rll := fun h => n_x_rll (h ▸ mrll)
  have e_rll_x : rll ≠ x := Ne.symm e_x_rll
  have e_x_rlr : x ≠ rlr := fun h => n_x_rlr (h ▸ mrlr)
  have e_rlr_x : rlr ≠ x := Ne.symm e_x_rlr
  have e_x_rr : x ≠ rr := fun h => n_x_rr (h ▸ mrr)
  have e_rr_x : rr ≠ x := Ne.symm e_x_rr
  have e_r_rl : r ≠ rl := fun h => by subst h; have c := List.nodup_iff_count.1 hN r; simp only [List.count_cons, List.count_append, beq_self_eq_true, if_true] at c; omega
  have e_rl_r : rl ≠ r := Ne.symm e_r_rl
  have e_r_l : r ≠ l := fun h => n_r_l (h ▸ ml)
  have e_l_r : l ≠ r := Ne.symm e_r_l
  have e_r_rll : r ≠ rll := fun h => n_r_rll (h ▸ mrll)
  have e_rll_r : rll ≠ r := Ne.symm e_r_rll
  have e_r_rlr : r ≠ rlr := fun h => n_r_rlr (h ▸ mrlr)
  have e_rlr_r : rlr ≠ r := Ne.symm e_r_rlr
  have e_r_rr : r ≠ rr := fun h => n_r_rr (h ▸ mrr)
  have e_rr_r : rr ≠ r := Ne.symm e_r_rr
  have e_rl_l : rl ≠ l := fun h => n_rl_l (h ▸ ml)
  have e_l_rl : l ≠ rl := Ne.symm e_rl_l
  have e_rl_rll : rl ≠ rll := fun h => n_rl_rll (h ▸ mrll)
  have e_rll_rl : rll ≠ rl := Ne.symm e_rl_rll
  have e_rl_rlr : rl ≠ rlr := fun h => n_rl_rlr (h ▸ mrlr)
  have e_rlr_rl : rlr ≠ rl := Ne.symm e_rl_rlr
  have e_rl_rr : rl ≠ rr := fun h => n_rl_rr (h ▸ mrr)
  have e_rr_rl : rr ≠ rl := Ne.symm e_rl_rr
  have e_l_rll : l ≠ rll := fun h => n_l_rll (h ▸ mrll)
  have e_rll_l : rll ≠ l := Ne.symm e_l_rll
  have e_l_rlr : l ≠ rlr := fun h => n_l_rlr (h ▸ mrlr)
  have e_rlr_l : rlr ≠ l := Ne.symm e_l_rlr
  have e_l_rr : l ≠ rr := fun h => n_l_rr (h ▸ mrr)
  have e_rr_l : rr ≠ l := Ne.symm e_l_rr
  have e_rll_rlr : rll ≠ rlr := fun h => n_rll_rlr (h ▸ mrlr)
  have e_rlr_rll : rlr ≠ rll := Ne.symm e_rll_rlr
  have e_rll_rr : rll ≠ rr := fun h => n_rll_rr (h ▸ mrr)
  have e_rr_rll : rr ≠ rll := Ne.symm e_rll_rr
  have e_rlr_rr : rlr ≠ rr := fun h => n_rlr_rr (h ▸ mrr)
  have e_rr_rlr : rr ≠ rlr := Ne.symm e_rlr_rr
  have d_l : Ll.Nodup := List.nodup_iff_count.2 fun z => by have c := List.nodup_iff_count.1 hN z; simp only [List.count_cons, List.count_append] at c; omega
  have d_rll : Lrll.Nodup := List.nodup_iff_count.2 fun z => by have c := List.nodup_iff_count.1 hN z; simp only [List.count_cons, List.count_append] at c; omega
  have d_rlr : Lrlr.Nodup := List.nodup_iff_count.2 fun z => by have c := List.nodup_iff_count.1 hN z; simp only [List.count_cons, List.count_append] at c; omega
  have d_rr : Lrr.Nodup := List.nodup_iff_count.2 fun z => by have c := List.nodup_iff_count.1 hN z; simp only [List.count_cons, List.count_append] at c; omega
  clear hN
  have s1_l : AT (wth t l a) l (bl.wset a) (Ll) := al.wth (by (try simp only [List.mem_cons, List.mem_append, not_or]); (repeat' apply And.intro) <;> assumption)
  have s1_rll : AT (wth t l a) rll brll (Lrll) := arll.wth_off (by (try simp only [List.mem_cons, List.mem_append, not_or]); (repeat' apply And.intro) <;> assumption)
  have s1_rlr : AT (wth t l a) rlr brlr (Lrlr) := arlr.wth_off (by (try simp only [List.mem_cons, List.mem_append, not_or]); (repeat' apply And.intro) <;> assumption)
  have s1_rr : AT (wth t l a) rr brr (Lrr) := arr.wth_off (by (try simp only [List.mem_cons, List.mem_append, not_or]); (repeat' apply And.intro) <;> assumption)
  have r1_x : ndAt (wth t l a) x = ndAt t x := (wth_ne _ _ _ _ (by (try simp only [List.mem_cons, List.mem_append, not_or]); (repeat' apply And.intro) <;> assumption)).trans rfl
  have r1_r : ndAt (wth t l a) r = ndAt t r := (wth_ne _ _ _ _ (by (try simp only [List.mem_cons, List.mem_append, not_or]); (repeat' apply And.intro) <;> assumption)).trans rfl
  have r1_rl : ndAt (wth t l a) rl = ndAt t rl := (wth_ne _ _ _ _ (by (try simp only [List.mem_cons, List.mem_append, not_or]); (repeat' apply And.intro) <;> assumption)).trans rfl
  have s2_rlr : AT (ovr (wth t l a) x b (l : Int) (rll : Int)) rlr brlr (Lrlr) := s1_rlr.ovr_off (by (try simp only [List.mem_cons, List.mem_append, not_or]); (repeat' apply And.intro) <;> assumption)
  have s2_rr : AT (ovr (wth t l a) x b (l : Int) (rll : Int)) rr brr (Lrr) := s1_rr.ovr_off (by (try simp only [List.mem_cons, List.mem_append, not_or]); (repeat' apply And.intro) <;> assumption)
  have s2_x : AT (ovr (wth t l a) x b (l : Int) (rll : Int)) x (.node ((ndP (ndAt t x)).w b) (bl.wset a) brll) (x :: (Ll ++ Lrll)) := AT.over (l := l) (r := rll) r1_x ((show _ → _ from fun h => by rw [wth_length]; exact h) hx) s1_l s1_rll (by (try simp only [List.mem_cons, List.mem_append, not_or]); (repeat' apply And.intro) <;> assumption) (by (try simp only [List.mem_cons, List.mem_append, not_or]); (repeat' apply And.intro) <;> assumption)
  have r2_r : ndAt (ovr (wth t l a) x b (l : Int) (rll : Int)) r = ndAt t r := (ovr_ne _ _ _ _ _ _ (by (try simp only [List.mem_cons, List.mem_append, not_or]); (repeat' apply And.intro) <;> assumption)).trans r1_r
  have r2_rl : ndAt (ovr (wth t l a) x b (l : Int) (rll : Int)) rl = ndAt t rl := (ovr_ne _ _ _ _ _ _ (by (try simp only [List.mem_cons, List.mem_append, not_or]); (repeat' apply And.intro) <;> assumption)).trans r1_rl
  have s3_x : AT (ovr (ovr (wth t l a) x b (l : Int) (rll : Int)) r c (rlr : Int) (rr : Int)) x (.node ((ndP (ndAt t x)).w b) (bl.wset a) brll) (x :: (Ll ++ Lrll)) := s2_x.ovr_off (by (try simp only [List.mem_cons, List.mem_append, not_or]); (repeat' apply And.intro) <;> assumption)
  have s3_r : AT (ovr (ovr (wth t l a) x b (l : Int) (rll : Int)) r c (rlr : Int) (rr : Int)) r (.node ((ndP (ndAt t r)).w c) brlr brr) (r :: (Lrlr ++ Lrr)) := AT.over (l := rlr) (r := rr) r2_r ((show _ → _ from fun h => by rw [ovr_length, wth_length]; exact h) hr) s2_rlr s2_rr (by (try simp only [List.mem_cons, List.mem_append, not_or]); (repeat' apply And.intro) <;> assumption) (by (try simp only [List.mem_cons, List.mem_append, not_or]); (repeat' apply And.intro) <;> assumption)
  have r3_rl : ndAt (ovr (ovr (wth t l a) x b (l : Int) (rll : Int)) r c (rlr : Int) (rr : Int)) rl = ndAt t rl := (ovr_ne _ _ _ _ _ _ (by (try simp only [List.mem_cons, List.mem_append, not_or]); (repeat' apply And.intro) <;> assumption)).trans r2_rl
  have s4_rl : AT (ovr (ovr (ovr (wth t l a) x b (l : Int) (rll : Int)) r c (rlr : Int) (rr : Int)) rl d (x : Int) (r : Int)) rl (.node ((ndP (ndAt t rl)).w d) (.node ((ndP (ndAt t x)).w b) (bl.wset a) brll) (.node ((ndP (ndAt t r)).w c) brlr brr)) (rl :: ((x :: (Ll ++ Lrll)) ++ (r :: (Lrlr ++ Lrr)))) := AT.over (l := x) (r := r) r3_rl ((show _ → _ from fun h => by rw [ovr_length, ovr_length, wth_length]; exact h) hrl) s3_x s3_r (by (try simp only [List.mem_cons, List.mem_append, not_or]); (repeat' apply And.intro) <;> assumption) (by (try simp only [List.mem_cons, List.mem_append, not_or]); (repeat' apply And.intro) <;> assumption)
  refine ⟨by simp only [ovr_length, wth_length], ⟨_, s4_rl, ?_⟩, fun p hp => ?_⟩
  · rw [List.perm_iff_count]; intro z; simp only [List.count_cons, List.count_append]; try omega
  · skip
    have p_x : p ≠ x := fun e => hp (e ▸ by simp)
    have p_r : p ≠ r := fun e => hp (e ▸ by simp)
    have p_rl : p ≠ rl := fun e => hp (e ▸ by simp)
    have p_l : p ≠ l := fun e => hp (e ▸ by simp [ml])
    have p_rll : p ≠ rll := fun e => hp (e ▸ by simp [mrll])
    have p_rlr : p ≠ rlr := fun e => hp (e ▸ by simp [mrlr])
    have p_rr : p ≠ rr := fun e => hp (e ▸ by simp [mrr])
    rw [ovr_ne _ _ _ _ _ _ (by assumption), ovr_ne _ _ _ _ _ _ (by assumption), ovr_ne _ _ _ _ _ _ (by assumption), wth_ne _ _ _ _ (by assumption)]
theorem bout12 {t : NL} {x : Nat} {bx : BT} {Lx : List Nat} (a : Int)  (ax : AT t x bx Lx) (hN : (Lx).Nodup) :
    BOut t (wth t x a) (Lx) x (bx.wset a) := by
  have mx := ax.mem

  have s1_x : AT (wth t x a) x (bx.wset a) (Lx) := ax.wth (by (try simp only [List.mem_cons, List.mem_append, not_or]); (repeat' apply And.intro) <;> assumption)
  refine ⟨by simp only [wth_length], ⟨_, s1_x, ?_⟩, fun p hp => ?_⟩
  · exact List.Perm.refl _
  · skip
    have p_x : p ≠ x := fun e => hp (e ▸ mx)
    rw [wth_ne _ _ _ _ (by assumption)]
end Go.Proofs.Ytfjkddjjpbdjkaa
