import PyProof.Rows.All
import Wide.All
import OpenK.AllK
import Wide.FinOn
import PySem.Challenge.RW_lastingly_k01_words
import HandS.ForMost
import HandS.ForExc
import HandS.StrMore
import HandS.Wide
import HandS.IsInst
import HandS.TupLe
import KE.IntTextLaws
set_option Elab.async false
set_option linter.all false
set_option maxRecDepth 100000
set_option maxHeartbeats 4000000
/-! Dn1: data in the heap. What a value stands for, who holds it, and what stays. -/
namespace DN
open PySem PySem.Spec PyProof.Rows L2

/-- who may change a list: own: this holder alone; sh: nobody any more; fz: known to be readable alone -/
inductive Md where
  | own | sh | fz
  deriving DecidableEq
inductive Kd where
  | tup | lst (m : Md) | dic (m : Md) (ks : List Key) | obj (m : Md) (c : Str) (fs : List Str) | hole | gone
  deriving DecidableEq
inductive D where
  | non | bl (b : Bool) | int (i : Int) | str (x : Str) | con (k : Kd) (ds : List D)
abbrev D.tup (ds : List D) : D := .con .tup ds
abbrev D.lst (m : Md) (ds : List D) : D := .con (.lst m) ds

def Md.sh' : Md → Md
  | .own => .sh
  | m => m
def Kd.frz : Kd → Kd
  | .tup => .tup
  | .lst m => .lst m.sh'
  | .dic m ks => .dic m.sh' ks
  | .obj m c fs => .obj m.sh' c fs
  | .hole => .gone
  | .gone => .gone
def Kd.isOwn : Kd → Bool
  | .tup => false
  | .lst m => m == .own
  | .dic m _ => m == .own
  | .obj m _ _ => m == .own
  | .hole => true
  | .gone => false
def Kd.foot (k : Kd) (a : Addr) : List Addr := if k.isOwn = true then [a] else []
mutual
def D.frz : D → D
  | .non => .non
  | .bl b => .bl b
  | .int i => .int i
  | .str x => .str x
  | .con k ds => .con k.frz (D.frzs ds)
def D.frzs : List D → List D
  | [] => []
  | d :: ds => d.frz :: D.frzs ds
end
mutual
def D.pure : D → Bool
  | .non => true
  | .bl _ => true
  | .int _ => true
  | .str _ => true
  | .con k ds => !k.isOwn && D.pures ds
def D.pures : List D → Bool
  | [] => true
  | d :: ds => d.pure && D.pures ds
end

abbrev Sub (H H' : Hp) : Prop := ∀ a o, H a = some o → H' a = some o
/-- what never changes -/
def still : HO → Prop
  | .tup _ => True
  | .frz _ _ => True
  | _ => False
section
variable (K : PySem.W.Frag) (mg : Str → Option Value)
def AtM (m : Md) (Hs H : Hp) (a : Addr) (o : HO) : Prop := match m with
  | .own => H a = some o
  | .sh => Hs a = some o
  | .fz => False
def At (Hs H : Hp) (a : Addr) (vs : List V) : Kd → Prop
  | .tup => SqT K H a vs
  | .lst .fz => SqL K Hs a vs
  | .lst m => AtM m Hs H a (.lst vs)
  | .dic m ks => ks.length = vs.length ∧ AtM m Hs H a (.dK (ks.zip vs))
  | .obj m c fs => fs.length = vs.length ∧ ∃ C dx, mg c = some (.ref C) ∧ AtM m Hs H a (.ins C dx (fs.zip vs))
  | .hole => ∃ o, H a = some o ∧ ¬ still o
  | .gone => True
mutual
def Vr (Hs H : Hp) : D → V → List Addr → Prop
  | .non, v, F => v = .non ∧ F = []
  | .bl b, v, F => v = .bl b ∧ F = []
  | .int i, v, F => v = .int i ∧ F = []
  | .str x, v, F => v = .str x ∧ F = []
  | .con k ds, v, F => ∃ a vs G, v = .ref a ∧ At K mg Hs H a vs k ∧ Vrs Hs H ds vs G ∧ F = k.foot a ++ G
def Vrs (Hs H : Hp) : List D → List V → List Addr → Prop
  | [], vs, F => vs = [] ∧ F = []
  | d :: ds, vs, F => ∃ v ws F1 F2, vs = v :: ws ∧ Vr Hs H d v F1 ∧ Vrs Hs H ds ws F2 ∧ F = F1 ++ F2
end
end
section
variable {K : PySem.W.Frag} {mg : Str → Option Value} {Hs Hs' H H' : Hp}
theorem sqL_sub {a : Addr} {xs : List V} (h : Sub Hs Hs') (q : SqL K Hs a xs) : SqL K Hs' a xs := by
  rcases q with (q | ⟨o, q⟩) | q
  · exact .inl (.inl (h _ _ q))
  · exact .inl (.inr ⟨o, h _ _ q⟩)
  · exact .inr q
theorem sqT_still {a : Addr} {xs : List V} (h : ∀ a o, H a = some o → still o → H' a = some o) (q : SqT K H a xs) : SqT K H' a xs := by
  rcases q with (q | ⟨o, q⟩) | q
  · exact .inl (.inl (h _ _ q trivial))
  · exact .inl (.inr ⟨o, h _ _ q trivial⟩)
  · exact .inr q
theorem foot_own {k : Kd} {a : Addr} (h : k.isOwn = true) : k.foot a = [a] := if_pos h
theorem foot_not {k : Kd} {a : Addr} (h : k.isOwn = false) : k.foot a = [] := if_neg (by rw [h]; decide)
theorem atM_mono {m : Md} {a : Addr} {o : HO} (hs : Sub Hs Hs') (hf : m = .own → H a = some o → H' a = some o) (h : AtM m Hs H a o) : AtM m Hs' H' a o := by
  cases m with
  | own => exact hf rfl h
  | sh => exact hs _ _ h
  | fz => exact h
theorem at_mono {a : Addr} {vs : List V} {k : Kd} (hs : Sub Hs Hs') (ht : ∀ a o, H a = some o → still o → H' a = some o) (hf : ∀ b ∈ k.foot a, ∀ o, H b = some o → H' b = some o)
    (h : At K mg Hs H a vs k) : At K mg Hs' H' a vs k := by
  cases k with
  | tup => exact sqT_still ht h
  | lst m =>
    cases m with
    | own => exact hf a (List.mem_singleton.mpr rfl) _ h
    | sh => exact hs _ _ h
    | fz => exact sqL_sub hs h
  | dic m ks => exact ⟨h.1, atM_mono hs (fun e q => hf a (by subst e; exact List.mem_singleton.mpr rfl) _ q) h.2⟩
  | obj m c fs =>
    obtain ⟨h1, C, dx, h2, h3⟩ := h
    exact ⟨h1, C, dx, h2, atM_mono hs (fun e q => hf a (by subst e; exact List.mem_singleton.mpr rfl) _ q) h3⟩
  | hole =>
    obtain ⟨o, h1, h2⟩ := h
    exact ⟨o, hf a (List.mem_singleton.mpr rfl) _ h1, h2⟩
  | gone => trivial
mutual
theorem vr_mono (hs : Sub Hs Hs') (ht : ∀ a o, H a = some o → still o → H' a = some o) : ∀ (d : D) (v : V) (F : List Addr), (∀ b ∈ F, ∀ o, H b = some o → H' b = some o) → Vr K mg Hs H d v F → Vr K mg Hs' H' d v F
  | .non, _, _, _, h => h
  | .bl _, _, _, _, h => h
  | .int _, _, _, _, h => h
  | .str _, _, _, _, h => h
  | .con k ds, v, F, hf, h => by
    obtain ⟨a, vs, G, e1, e2, e3, e4⟩ := h
    subst e4
    exact ⟨a, vs, G, e1, at_mono hs ht (fun b hb => hf b (List.mem_append_left _ hb)) e2, vrs_mono hs ht ds vs G (fun b hb => hf b (List.mem_append_right _ hb)) e3, rfl⟩
theorem vrs_mono (hs : Sub Hs Hs') (ht : ∀ a o, H a = some o → still o → H' a = some o) : ∀ (ds : List D) (vs : List V) (F : List Addr), (∀ b ∈ F, ∀ o, H b = some o → H' b = some o) → Vrs K mg Hs H ds vs F → Vrs K mg Hs' H' ds vs F
  | [], _, _, _, h => h
  | d :: ds, vs, F, hf, h => by
    obtain ⟨v, ws, F1, F2, e1, e2, e3, e4⟩ := h
    subst e4
    exact ⟨v, ws, F1, F2, e1, vr_mono hs ht d v F1 (fun b hb => hf b (List.mem_append_left _ hb)) e2, vrs_mono hs ht ds ws F2 (fun b hb => hf b (List.mem_append_right _ hb)) e3, rfl⟩
end
theorem atM_frz {m : Md} {a : Addr} {o : HO} (hs : Sub Hs Hs') (hf : m = .own → Hs' a = H a) (h : AtM m Hs H a o) : AtM m.sh' Hs' H' a o := by
  cases m with
  | own =>
    show Hs' a = some o
    rw [hf rfl]
    exact h
  | sh => exact hs _ _ h
  | fz => exact h
theorem frz_notOwn : ∀ k : Kd, k.frz.isOwn = false
  | .tup => rfl
  | .lst .own => rfl
  | .lst .sh => rfl
  | .lst .fz => rfl
  | .dic .own _ => rfl
  | .dic .sh _ => rfl
  | .dic .fz _ => rfl
  | .obj .own _ _ => rfl
  | .obj .sh _ _ => rfl
  | .obj .fz _ _ => rfl
  | .hole => rfl
  | .gone => rfl
theorem at_frz {a : Addr} {vs : List V} {k : Kd} (hs : Sub Hs Hs') (hf : ∀ b ∈ k.foot a, Hs' b = H b) (h : At K mg Hs H a vs k) : At K mg Hs' H a vs k.frz := by
  cases k with
  | tup => exact h
  | lst m =>
    cases m with
    | own =>
      show Hs' a = some (.lst vs)
      rw [hf a (List.mem_singleton.mpr rfl)]
      exact h
    | sh => exact hs _ _ h
    | fz => exact sqL_sub hs h
  | dic m ks => exact ⟨h.1, atM_frz hs (fun e => hf a (by subst e; exact List.mem_singleton.mpr rfl)) h.2⟩
  | obj m c fs =>
    obtain ⟨h1, C, dx, h2, h3⟩ := h
    exact ⟨h1, C, dx, h2, atM_frz hs (fun e => hf a (by subst e; exact List.mem_singleton.mpr rfl)) h3⟩
  | hole => trivial
  | gone => trivial
mutual
theorem vr_frz (hs : Sub Hs Hs') : ∀ (d : D) (v : V) (F : List Addr), (∀ b ∈ F, Hs' b = H b) → Vr K mg Hs H d v F → Vr K mg Hs' H d.frz v []
  | .non, _, _, _, h => ⟨h.1, rfl⟩
  | .bl _, _, _, _, h => ⟨h.1, rfl⟩
  | .int _, _, _, _, h => ⟨h.1, rfl⟩
  | .str _, _, _, _, h => ⟨h.1, rfl⟩
  | .con k ds, v, F, hf, h => by
    obtain ⟨a, vs, G, e1, e2, e3, e4⟩ := h
    subst e4
    refine ⟨a, vs, [], e1, at_frz hs (fun b hb => hf b (List.mem_append_left _ hb)) e2, vrs_frz hs ds vs G (fun b hb => hf b (List.mem_append_right _ hb)) e3, ?_⟩
    rw [foot_not (frz_notOwn k)]
    rfl
theorem vrs_frz (hs : Sub Hs Hs') : ∀ (ds : List D) (vs : List V) (F : List Addr), (∀ b ∈ F, Hs' b = H b) → Vrs K mg Hs H ds vs F → Vrs K mg Hs' H (D.frzs ds) vs []
  | [], _, _, _, h => ⟨h.1, rfl⟩
  | d :: ds, vs, F, hf, h => by
    obtain ⟨v, ws, F1, F2, e1, e2, e3, e4⟩ := h
    subst e4
    exact ⟨v, ws, [], [], e1, vr_frz hs d v F1 (fun b hb => hf b (List.mem_append_left _ hb)) e2, vrs_frz hs ds ws F2 (fun b hb => hf b (List.mem_append_right _ hb)) e3, rfl⟩
end
mutual
theorem vr_pure : ∀ (d : D) (v : V) (F : List Addr), d.pure = true → Vr K mg Hs H d v F → F = []
  | .non, _, _, _, h => h.2
  | .bl _, _, _, _, h => h.2
  | .int _, _, _, _, h => h.2
  | .str _, _, _, _, h => h.2
  | .con k ds, v, F, p, h => by
    obtain ⟨a, vs, G, e1, e2, e3, e4⟩ := h
    have p' : (!k.isOwn && D.pures ds) = true := p
    rw [Bool.and_eq_true] at p'
    have k0 : k.isOwn = false := by
      have := p'.1
      cases h : k.isOwn with
      | true => rw [h] at this; cases this
      | false => rfl
    rw [e4, foot_not k0, vrs_pure ds vs G p'.2 e3]
    rfl
theorem vrs_pure : ∀ (ds : List D) (vs : List V) (F : List Addr), D.pures ds = true → Vrs K mg Hs H ds vs F → F = []
  | [], _, _, _, h => h.2
  | d :: ds, vs, F, p, h => by
    obtain ⟨v, ws, F1, F2, e1, e2, e3, e4⟩ := h
    have p' : (d.pure && D.pures ds) = true := p
    rw [Bool.and_eq_true] at p'
    rw [e4, vr_pure d v F1 p'.1 e2, vrs_pure ds ws F2 p'.2 e3]
    rfl
end
mutual
theorem frz_pure : ∀ d : D, d.frz.pure = true
  | .non => rfl
  | .bl _ => rfl
  | .int _ => rfl
  | .str _ => rfl
  | .con k ds => by
    show (!k.frz.isOwn && D.pures (D.frzs ds)) = true
    rw [frz_notOwn k, frzs_pure ds]
    rfl
theorem frzs_pure : ∀ ds : List D, D.pures (D.frzs ds) = true
  | [] => rfl
  | d :: ds => by
    show (d.frz.pure && D.pures (D.frzs ds)) = true
    rw [frz_pure d, frzs_pure ds]
    rfl
end
theorem kd_frz_of : ∀ {k : Kd}, k.isOwn = false → k.frz = k
  | .tup, _ => rfl
  | .lst .sh, _ => rfl
  | .lst .fz, _ => rfl
  | .dic .sh _, _ => rfl
  | .dic .fz _, _ => rfl
  | .obj .sh _ _, _ => rfl
  | .obj .fz _ _, _ => rfl
  | .gone, _ => rfl
mutual
theorem frz_of_pure : ∀ d : D, d.pure = true → d.frz = d
  | .non, _ => rfl
  | .bl _, _ => rfl
  | .int _, _ => rfl
  | .str _, _ => rfl
  | .con k ds, p => by
    have p' : (!k.isOwn && D.pures ds) = true := p
    rw [Bool.and_eq_true] at p'
    have k0 : k.isOwn = false := by
      have := p'.1
      cases h : k.isOwn with
      | true => rw [h] at this; cases this
      | false => rfl
    show D.con k.frz (D.frzs ds) = D.con k ds
    rw [kd_frz_of k0, frzs_of_pure ds p'.2]
theorem frzs_of_pure : ∀ ds : List D, D.pures ds = true → D.frzs ds = ds
  | [], _ => rfl
  | d :: ds, p => by
    have p' : (d.pure && D.pures ds) = true := p
    rw [Bool.and_eq_true] at p'
    show d.frz :: D.frzs ds = d :: ds
    rw [frz_of_pure d p'.1, frzs_of_pure ds p'.2]
end
/-- what is held is there, and may change -/
theorem at_foot {a : Addr} {vs : List V} {k : Kd} (h : At K mg Hs H a vs k) : ∀ b ∈ k.foot a, ∃ o, H b = some o ∧ ¬ still o := by
  intro b hb
  cases k with
  | tup => cases hb
  | lst m =>
    cases m with
    | own =>
      rw [List.mem_singleton.mp hb]
      exact ⟨_, h, id⟩
    | sh => cases hb
    | fz => cases hb
  | dic m ks =>
    cases m with
    | own =>
      rw [List.mem_singleton.mp hb]
      exact ⟨_, h.2, id⟩
    | sh => cases hb
    | fz => cases hb
  | obj m c fs =>
    cases m with
    | own =>
      rw [List.mem_singleton.mp hb]
      obtain ⟨h1, C, dx, h2, h3⟩ := h
      exact ⟨_, h3, id⟩
    | sh => cases hb
    | fz => cases hb
  | hole =>
    rw [List.mem_singleton.mp hb]
    exact h
  | gone => cases hb
mutual
theorem vr_foot : ∀ (d : D) (v : V) (F : List Addr), Vr K mg Hs H d v F → ∀ b ∈ F, ∃ o, H b = some o ∧ ¬ still o
  | .non, _, _, h, b, hb => by rw [h.2] at hb; cases hb
  | .bl _, _, _, h, b, hb => by rw [h.2] at hb; cases hb
  | .int _, _, _, h, b, hb => by rw [h.2] at hb; cases hb
  | .str _, _, _, h, b, hb => by rw [h.2] at hb; cases hb
  | .con k ds, v, F, h, b, hb => by
    obtain ⟨a, vs, G, e1, e2, e3, e4⟩ := h
    rw [e4] at hb
    rcases List.mem_append.mp hb with hb | hb
    · exact at_foot e2 b hb
    · exact vrs_foot ds vs G e3 b hb
theorem vrs_foot : ∀ (ds : List D) (vs : List V) (F : List Addr), Vrs K mg Hs H ds vs F → ∀ b ∈ F, ∃ o, H b = some o ∧ ¬ still o
  | [], _, _, h, b, hb => by rw [h.2] at hb; cases hb
  | d :: ds, vs, F, h, b, hb => by
    obtain ⟨v, ws, F1, F2, e1, e2, e3, e4⟩ := h
    rw [e4] at hb
    rcases List.mem_append.mp hb with hb | hb
    · exact vr_foot d v F1 e2 b hb
    · exact vrs_foot ds ws F2 e3 b hb
end
theorem vrs_len : ∀ {ds : List D} {vs : List V} {F : List Addr}, Vrs K mg Hs H ds vs F → vs.length = ds.length
  | [], _, _, h => by rw [h.1]; rfl
  | d :: ds, vs, F, h => by
    obtain ⟨v, ws, F1, F2, e1, e2, e3, e4⟩ := h
    rw [e1, List.length_cons, List.length_cons, vrs_len e3]
theorem vrs_get : ∀ {ds : List D} {vs : List V} {F : List Addr} {i : Nat} {d : D}, Vrs K mg Hs H ds vs F → ds[i]? = some d → ∃ v G, vs[i]? = some v ∧ Vr K mg Hs H d v G ∧ ∀ b ∈ G, b ∈ F
  | [], _, _, i, d, h, e => by simp at e
  | d :: ds, vs, F, 0, d', h, e => by
    obtain ⟨v, ws, F1, F2, e1, e2, e3, e4⟩ := h
    simp at e
    subst e
    exact ⟨v, F1, by rw [e1]; rfl, e2, fun b hb => by rw [e4]; exact List.mem_append_left _ hb⟩
  | d :: ds, vs, F, i + 1, d', h, e => by
    obtain ⟨v, ws, F1, F2, e1, e2, e3, e4⟩ := h
    obtain ⟨v', G, h1, h2, h3⟩ := vrs_get (i := i) e3 (by simpa using e)
    exact ⟨v', G, by rw [e1]; simpa using h1, h2, fun b hb => by rw [e4]; exact List.mem_append_right _ (h3 b hb)⟩
theorem vrs_append : ∀ {ds es : List D} {vs ws : List V} {F G : List Addr}, Vrs K mg Hs H ds vs F → Vrs K mg Hs H es ws G → Vrs K mg Hs H (ds ++ es) (vs ++ ws) (F ++ G)
  | [], es, vs, ws, F, G, h, h' => by
    rw [h.1, h.2]
    exact h'
  | d :: ds, es, vs, ws, F, G, h, h' => by
    obtain ⟨v, us, F1, F2, e1, e2, e3, e4⟩ := h
    exact ⟨v, us ++ ws, F1, F2 ++ G, by rw [e1]; rfl, e2, vrs_append e3 h', by rw [e4, List.append_assoc]⟩
theorem vrs_split : ∀ {ds es : List D} {ws : List V} {F : List Addr}, Vrs K mg Hs H (ds ++ es) ws F → ∃ vs us F1 F2, ws = vs ++ us ∧ Vrs K mg Hs H ds vs F1 ∧ Vrs K mg Hs H es us F2 ∧ F = F1 ++ F2
  | [], es, ws, F, h => ⟨[], ws, [], F, rfl, ⟨rfl, rfl⟩, h, rfl⟩
  | d :: ds, es, ws, F, h => by
    obtain ⟨v, us, F1, F2, e1, e2, e3, e4⟩ := h
    obtain ⟨vs, us', G1, G2, h1, h2, h3, h4⟩ := vrs_split e3
    exact ⟨v :: vs, us', F1 ++ G1, G2, by rw [e1, h1]; rfl, ⟨v, vs, F1, G1, rfl, e2, h2, rfl⟩, h3, by rw [e4, h4, List.append_assoc]⟩
end

/-! ### what is known: slots and what lies beside -/
section
variable (K : PySem.W.Frag) (mg : Str → Option Value)
def Vo (Hs H : Hp) : Option D → Option V → List Addr → Prop
  | none, _, F => F = []
  | some d, some v, F => Vr K mg Hs H d v F
  | some _, none, _ => False
def Vos (Hs H : Hp) : List (Option D) → List (Option V) → List Addr → Prop
  | [], vs, F => vs = [] ∧ F = []
  | d :: ds, vs, F => ∃ v ws F1 F2, vs = v :: ws ∧ Vo K mg Hs H d v F1 ∧ Vos Hs H ds ws F2 ∧ F = F1 ++ F2
/-- δ of the slots σ, ds of vs beside -/
def Rel (H : Hp) (δ : List (Option D)) (σ : List (Option V)) (ds : List (Option D)) (vs : List (Option V)) : Prop :=
  ∃ (Hs : Hp) (F G : List Addr), Sub Hs H ∧ Vos K mg Hs H δ σ F ∧ Vos K mg Hs H ds vs G ∧ (F ++ G).Nodup ∧ ∀ a ∈ F ++ G, Hs a = none
end
section
variable {K : PySem.W.Frag} {mg : Str → Option Value} {Hs Hs' H H' : Hp}
theorem vo_mono (hs : Sub Hs Hs') (ht : ∀ a o, H a = some o → still o → H' a = some o) {d : Option D} {v : Option V} {F : List Addr} (hf : ∀ b ∈ F, ∀ o, H b = some o → H' b = some o) (h : Vo K mg Hs H d v F) : Vo K mg Hs' H' d v F := by
  cases d with
  | none => exact h
  | some d =>
    cases v with
    | none => exact h
    | some v => exact vr_mono hs ht d v F hf h
theorem vos_mono (hs : Sub Hs Hs') (ht : ∀ a o, H a = some o → still o → H' a = some o) : ∀ {ds : List (Option D)} {vs : List (Option V)} {F : List Addr}, (∀ b ∈ F, ∀ o, H b = some o → H' b = some o) → Vos K mg Hs H ds vs F → Vos K mg Hs' H' ds vs F
  | [], _, _, _, h => h
  | d :: ds, vs, F, hf, h => by
    obtain ⟨v, ws, F1, F2, e1, e2, e3, e4⟩ := h
    subst e4
    exact ⟨v, ws, F1, F2, e1, vo_mono hs ht (fun b hb => hf b (List.mem_append_left _ hb)) e2, vos_mono hs ht (fun b hb => hf b (List.mem_append_right _ hb)) e3, rfl⟩
theorem vo_foot {d : Option D} {v : Option V} {F : List Addr} (h : Vo K mg Hs H d v F) : ∀ b ∈ F, ∃ o, H b = some o ∧ ¬ still o := by
  cases d with
  | none =>
    intro b hb
    rw [show F = [] from h] at hb
    cases hb
  | some d =>
    cases v with
    | none => exact h.elim
    | some v => exact vr_foot d v F h
theorem vos_foot : ∀ {ds : List (Option D)} {vs : List (Option V)} {F : List Addr}, Vos K mg Hs H ds vs F → ∀ b ∈ F, ∃ o, H b = some o ∧ ¬ still o
  | [], _, _, h, b, hb => by rw [h.2] at hb; cases hb
  | d :: ds, vs, F, h, b, hb => by
    obtain ⟨v, ws, F1, F2, e1, e2, e3, e4⟩ := h
    rw [e4] at hb
    rcases List.mem_append.mp hb with hb | hb
    · exact vo_foot e2 b hb
    · exact vos_foot e3 b hb
theorem vos_len : ∀ {ds : List (Option D)} {vs : List (Option V)} {F : List Addr}, Vos K mg Hs H ds vs F → vs.length = ds.length
  | [], _, _, h => by rw [h.1]; rfl
  | d :: ds, vs, F, h => by
    obtain ⟨v, ws, F1, F2, e1, e2, e3, e4⟩ := h
    rw [e1, List.length_cons, List.length_cons, vos_len e3]
theorem vos_append : ∀ {ds es : List (Option D)} {vs ws : List (Option V)} {F G : List Addr}, Vos K mg Hs H ds vs F → Vos K mg Hs H es ws G → Vos K mg Hs H (ds ++ es) (vs ++ ws) (F ++ G)
  | [], es, vs, ws, F, G, h, h' => by
    rw [h.1, h.2]
    exact h'
  | d :: ds, es, vs, ws, F, G, h, h' => by
    obtain ⟨v, us, F1, F2, e1, e2, e3, e4⟩ := h
    exact ⟨v, us ++ ws, F1, F2 ++ G, by rw [e1]; rfl, e2, vos_append e3 h', by rw [e4, List.append_assoc]⟩
theorem vos_split : ∀ {ds es : List (Option D)} {ws : List (Option V)} {F : List Addr}, Vos K mg Hs H (ds ++ es) ws F → ∃ vs us F1 F2, ws = vs ++ us ∧ Vos K mg Hs H ds vs F1 ∧ Vos K mg Hs H es us F2 ∧ F = F1 ++ F2
  | [], es, ws, F, h => ⟨[], ws, [], F, rfl, ⟨rfl, rfl⟩, h, rfl⟩
  | d :: ds, es, ws, F, h => by
    obtain ⟨v, us, F1, F2, e1, e2, e3, e4⟩ := h
    obtain ⟨vs, us', G1, G2, h1, h2, h3, h4⟩ := vos_split e3
    exact ⟨v :: vs, us', F1 ++ G1, G2, by rw [e1, h1]; rfl, ⟨v, vs, F1, G1, rfl, e2, h2, rfl⟩, h3, by rw [e4, h4, List.append_assoc]⟩
theorem vos_somes : ∀ {ds : List D} {ws : List (Option V)} {F : List Addr}, Vos K mg Hs H (ds.map some) ws F → ∃ vs, ws = vs.map some ∧ Vrs K mg Hs H ds vs F
  | [], ws, F, h => ⟨[], h.1, rfl, h.2⟩
  | d :: ds, ws, F, h => by
    obtain ⟨v, us, F1, F2, e1, e2, e3, e4⟩ := h
    obtain ⟨vs, h1, h2⟩ := vos_somes e3
    cases v with
    | none => exact e2.elim
    | some v => exact ⟨v :: vs, by rw [e1, h1]; rfl, v, vs, F1, F2, rfl, e2, h2, e4⟩
theorem vos_of : ∀ {ds : List D} {vs : List V} {F : List Addr}, Vrs K mg Hs H ds vs F → Vos K mg Hs H (ds.map some) (vs.map some) F
  | [], vs, F, h => ⟨by rw [h.1]; rfl, h.2⟩
  | d :: ds, vs, F, h => by
    obtain ⟨v, us, F1, F2, e1, e2, e3, e4⟩ := h
    exact ⟨some v, us.map some, F1, F2, by rw [e1]; rfl, e2, vos_of e3, e4⟩
/-- one place, what it holds apart from all else, and another thing there -/
theorem vos_at : ∀ {ds : List (Option D)} {vs : List (Option V)} {F : List Addr} {i : Nat} {d : Option D}, Vos K mg Hs H ds vs F → ds[i]? = some d →
    ∃ v Fi Fr, vs[i]? = some v ∧ Vo K mg Hs H d v Fi ∧ F.Perm (Fi ++ Fr) ∧ ∀ (Hs' H' : Hp) (d' : Option D) (v' : Option V) (G : List Addr), (Sub Hs Hs') → (∀ a o, H a = some o → still o → H' a = some o) → (∀ b ∈ Fr, ∀ o, H b = some o → H' b = some o) →
      Vo K mg Hs' H' d' v' G → ∃ F', Vos K mg Hs' H' (ds.set i d') (vs.set i v') F' ∧ F'.Perm (G ++ Fr)
  | [], _, _, i, d, h, e => by simp at e
  | d :: ds, vs, F, 0, d0, h, e => by
    obtain ⟨v, ws, F1, F2, e1, e2, e3, e4⟩ := h
    simp at e
    subst e
    refine ⟨v, F1, F2, by rw [e1]; rfl, e2, by rw [e4], fun Hs' H' d' v' G hs ht hf h' => ⟨G ++ F2, ?_, List.Perm.refl _⟩⟩
    rw [e1]
    exact ⟨v', ws, G, F2, rfl, h', vos_mono hs ht hf e3, rfl⟩
  | d :: ds, vs, F, i + 1, d0, h, e => by
    obtain ⟨v, ws, F1, F2, e1, e2, e3, e4⟩ := h
    obtain ⟨w, Fi, Fr, h1, h2, h3, h4⟩ := vos_at (i := i) e3 (by simpa using e)
    refine ⟨w, Fi, F1 ++ Fr, by rw [e1]; simpa using h1, h2, ?_, fun Hs' H' d' v' G hs ht hf h' => ?_⟩
    · rw [e4]
      exact (List.Perm.append_left F1 h3).trans (by
        rw [← List.append_assoc, ← List.append_assoc]
        exact List.Perm.append_right Fr List.perm_append_comm)
    · obtain ⟨F', q1, q2⟩ := h4 Hs' H' d' v' G hs ht (fun b hb => hf b (List.mem_append_right _ hb)) h'
      refine ⟨F1 ++ F', ?_, ?_⟩
      · rw [e1]
        exact ⟨v, ws.set i v', F1, F', rfl, vo_mono hs ht (fun b hb => hf b (List.mem_append_left _ hb)) e2, q1, rfl⟩
      · exact (List.Perm.append_left F1 q2).trans (by
          rw [← List.append_assoc, ← List.append_assoc]
          exact List.Perm.append_right Fr List.perm_append_comm)
end
end DN

/-! Dn2: what a run does to data: results, judgements over the layer's, and the laws of Rel. -/
namespace DN
open PySem PySem.Spec PyProof.Rows L2

section
variable {K : PySem.W.Frag} {mg : Str → Option Value} {H H' : Hp} {δ ds : List (Option D)} {σ vs : List (Option V)}
theorem Rel.sub (h : Rel K mg H δ σ ds vs) (e : Sub H H') : Rel K mg H' δ σ ds vs := by
  obtain ⟨Hs, F, G, s, h1, h2, nd, no⟩ := h
  exact ⟨Hs, F, G, fun a o q => e _ _ (s a o q), vos_mono (fun _ _ q => q) (fun a o q _ => e a o q) (fun b _ o q => e b o q) h1, vos_mono (fun _ _ q => q) (fun a o q _ => e a o q) (fun b _ o q => e b o q) h2, nd, no⟩
theorem sub_upd {p : Addr} {o : HO} (h : H p = none) : Sub H (upd H p o) := fun a u e => by
  rw [upd_ne (ne_of_none e h)]
  exact e
theorem Rel.len (h : Rel K mg H δ σ ds vs) : σ.length = δ.length := by
  obtain ⟨Hs, F, G, s, h1, h2, nd, no⟩ := h
  exact vos_len h1
theorem Rel.rlen (h : Rel K mg H δ σ ds vs) : vs.length = ds.length := by
  obtain ⟨Hs, F, G, s, h1, h2, nd, no⟩ := h
  exact vos_len h2
/-- fewer things -/
theorem Rel.drop {l : List (Option D)} {w : List (Option V)} (hl : w.length = l.length) (h : Rel K mg H δ σ (l ++ ds) (w ++ vs)) : Rel K mg H δ σ ds vs := by
  obtain ⟨Hs, F, G, s, h1, h2, nd, no⟩ := h
  obtain ⟨us, us', G1, G2, e, q1, q2, e2⟩ := vos_split h2
  have hl' : us.length = w.length := by rw [vos_len q1, hl]
  obtain ⟨rfl, rfl⟩ := List.append_inj e.symm hl'
  subst e2
  refine ⟨Hs, F, G2, s, h1, q2, ?_, fun a ha => no a ?_⟩
  · exact (List.Sublist.append_left (List.sublist_append_right G1 G2) F).nodup nd
  · exact (List.Sublist.append_left (List.sublist_append_right G1 G2) F).subset ha
theorem Rel.tail {d : Option D} {v : Option V} (h : Rel K mg H δ σ (d :: ds) (v :: vs)) : Rel K mg H δ σ ds vs := Rel.drop (l := [d]) (w := [v]) rfl h
/-- fewer things amid -/
theorem Rel.dropMid {l m : List (Option D)} {w u : List (Option V)} (hl : w.length = l.length) (hm : u.length = m.length) (h : Rel K mg H δ σ (l ++ (m ++ ds)) (w ++ (u ++ vs))) : Rel K mg H δ σ (l ++ ds) (w ++ vs) := by
  obtain ⟨Hs, F, G, s, h1, h2, nd, no⟩ := h
  obtain ⟨us, us', G1, G2, e, q1, q2, e2⟩ := vos_split h2
  have hl' : us.length = w.length := by rw [vos_len q1, hl]
  obtain ⟨rfl, rfl⟩ := List.append_inj e.symm hl'
  obtain ⟨ws, ws', G3, G4, e3, q3, q4, e4⟩ := vos_split q2
  have hm' : ws.length = u.length := by rw [vos_len q3, hm]
  obtain ⟨rfl, rfl⟩ := List.append_inj e3.symm hm'
  subst e2
  subst e4
  have sl : List.Sublist (F ++ (G1 ++ G4)) (F ++ (G1 ++ (G3 ++ G4))) := List.Sublist.append_left (List.Sublist.append_left (List.sublist_append_right G3 G4) G1) F
  exact ⟨Hs, F, G1 ++ G4, s, h1, vos_append q1 q4, sl.nodup nd, fun a ha => no a (sl.subset ha)⟩
/-- one to the front -/
theorem Rel.front {l : List (Option D)} {w : List (Option V)} {d : Option D} {v : Option V} (hl : w.length = l.length) (h : Rel K mg H δ σ (l ++ d :: ds) (w ++ v :: vs)) : Rel K mg H δ σ (d :: (l ++ ds)) (v :: (w ++ vs)) := by
  obtain ⟨Hs, F, G, s, h1, h2, nd, no⟩ := h
  obtain ⟨us, us', G1, G2, e, q1, q2, e2⟩ := vos_split h2
  have hl' : us.length = w.length := by rw [vos_len q1, hl]
  obtain ⟨rfl, rfl⟩ := List.append_inj e.symm hl'
  obtain ⟨v', us2, F1, F2, e3, q3, q4, e4⟩ := q2
  cases e3
  subst e2
  subst e4
  have pm : (F ++ (F1 ++ (G1 ++ F2))).Perm (F ++ (G1 ++ (F1 ++ F2))) := List.Perm.append_left F (by
    rw [← List.append_assoc, ← List.append_assoc]
    exact List.Perm.append_right F2 List.perm_append_comm)
  exact ⟨Hs, F, F1 ++ (G1 ++ F2), s, h1, ⟨_, _, F1, G1 ++ F2, rfl, q3, vos_append q1 q4, rfl⟩, pm.nodup_iff.mpr nd, fun a ha => no a (pm.mem_iff.mp ha)⟩
/-- a thing more that nobody holds -/
theorem Rel.push {d : D} {v : V} (h : Rel K mg H δ σ ds vs) (q : ∀ Hs, Vr K mg Hs H d v []) : Rel K mg H δ σ (some d :: ds) (some v :: vs) := by
  obtain ⟨Hs, F, G, s, h1, h2, nd, no⟩ := h
  exact ⟨Hs, F, G, s, h1, ⟨some v, vs, [], G, rfl, q Hs, h2, rfl⟩, nd, no⟩
theorem set_same {α : Type} {l : List α} {i : Nat} {x : α} (h : l[i]? = some x) : l.set i x = l := by
  apply List.ext_getElem?
  intro j
  rw [List.getElem?_set]
  split
  · rename_i e
    subst e
    split
    · exact h.symm
    · rename_i hn
      rw [List.getElem?_eq_none (by omega)] at h
      cases h
  · rfl
/-- a slot is read: it is nobody's own any more -/
theorem Rel.read {i : Nat} {d : D} (h : Rel K mg H δ σ ds vs) (e : δ[i]? = some (some d)) : ∃ v, σ[i]? = some (some v) ∧ Rel K mg H (δ.set i (some d.frz)) σ (some d.frz :: ds) (some v :: vs) := by
  obtain ⟨Hs, F, G, s, h1, h2, nd, no⟩ := h
  obtain ⟨v, Fi, Fr, e1, q1, pm, q2⟩ := vos_at h1 e
  cases v with
  | none => exact q1.elim
  | some v =>
    have q1' : Vr K mg Hs H d v Fi := q1
    obtain ⟨Hn, hHn⟩ : ∃ Hn : Hp, Hn = fun a => if a ∈ Fi then H a else Hs a := ⟨_, rfl⟩
    have sn : Sub Hs Hn := fun a o q => by
      rw [hHn]
      show (if a ∈ Fi then H a else Hs a) = some o
      split
      · exact s a o q
      · exact q
    have sn2 : Sub Hn H := fun a o q => by
      rw [hHn] at q
      have q' : (if a ∈ Fi then H a else Hs a) = some o := q
      split at q'
      · exact q'
      · exact s a o q'
    have hin : ∀ b ∈ Fi, Hn b = H b := fun b hb => by
      rw [hHn]
      show (if b ∈ Fi then H b else Hs b) = H b
      rw [if_pos hb]
    have f1 := vr_frz sn d v Fi hin q1'
    obtain ⟨F', q3, pm2⟩ := q2 Hn H (some d.frz) (some v) [] sn (fun _ _ q _ => q) (fun _ _ _ q => q) f1
    refine ⟨v, e1, Hn, F', G, sn2, ?_, ⟨some v, vs, [], G, rfl, f1, vos_mono sn (fun _ _ q _ => q) (fun _ _ _ q => q) h2, rfl⟩, ?_, ?_⟩
    · rw [set_same e1] at q3
      exact q3
    · have pa : (Fi ++ Fr ++ G).Nodup := ((List.Perm.append_right G pm).nodup_iff).mp nd
      have pb : (Fr ++ G).Nodup := by
        rw [List.append_assoc] at pa
        exact (List.sublist_append_right Fi (Fr ++ G)).nodup pa
      exact ((List.Perm.append_right G pm2).nodup_iff).mpr pb
    · intro a ha
      have ha' : a ∈ Fr ++ G := (List.Perm.append_right G pm2).mem_iff.mp ha
      have pa : (Fi ++ (Fr ++ G)).Nodup := by
        rw [← List.append_assoc]
        exact ((List.Perm.append_right G pm).nodup_iff).mp nd
      have hni : a ∉ Fi := fun hi => (List.nodup_append.mp pa).2.2 a hi a ha' rfl
      rw [hHn]
      show (if a ∈ Fi then H a else Hs a) = none
      rw [if_neg hni]
      refine no a ?_
      rw [List.mem_append]
      rcases List.mem_append.mp ha' with q | q
      · exact .inl (pm.mem_iff.mpr (List.mem_append_right _ q))
      · exact .inr q
/-- the front thing becomes nobody's own -/
theorem Rel.frzTop {d : D} {v : V} (h : Rel K mg H δ σ (some d :: ds) (some v :: vs)) : Rel K mg H δ σ (some d.frz :: ds) (some v :: vs) := by
  obtain ⟨Hs, F, G, s, h1, ⟨v', ws, Fi, Fr, e3, q1, q2, e4⟩, nd, no⟩ := h
  cases e3
  subst e4
  have q1' : Vr K mg Hs H d v Fi := q1
  obtain ⟨Hn, hHn⟩ : ∃ Hn : Hp, Hn = fun a => if a ∈ Fi then H a else Hs a := ⟨_, rfl⟩
  have sn : Sub Hs Hn := fun a o q => by
    rw [hHn]
    show (if a ∈ Fi then H a else Hs a) = some o
    split
    · exact s a o q
    · exact q
  have sn2 : Sub Hn H := fun a o q => by
    rw [hHn] at q
    have q' : (if a ∈ Fi then H a else Hs a) = some o := q
    split at q'
    · exact q'
    · exact s a o q'
  have hin : ∀ b ∈ Fi, Hn b = H b := fun b hb => by
    rw [hHn]
    show (if b ∈ Fi then H b else Hs b) = H b
    rw [if_pos hb]
  have f1 := vr_frz sn d v Fi hin q1'
  have sl : List.Sublist (F ++ Fr) (F ++ (Fi ++ Fr)) := List.Sublist.append_left (List.sublist_append_right Fi Fr) F
  refine ⟨Hn, F, Fr, sn2, vos_mono sn (fun _ _ q _ => q) (fun _ _ _ q => q) h1, ⟨some v, vs, [], Fr, rfl, f1, vos_mono sn (fun _ _ q _ => q) (fun _ _ _ q => q) q2, rfl⟩, sl.nodup nd, fun a ha => ?_⟩
  have hni : a ∉ Fi := fun hi => by
    rcases List.mem_append.mp ha with q | q
    · exact (List.nodup_append.mp nd).2.2 a q a (List.mem_append_left _ hi) rfl
    · exact (List.nodup_append.mp (List.nodup_append.mp nd).2.1).2.2 a hi a q rfl
  rw [hHn]
  show (if a ∈ Fi then H a else Hs a) = none
  rw [if_neg hni]
  exact no a (sl.subset ha)
/-- the front thing goes into a slot -/
theorem Rel.assign {i : Nat} {d : Option D} {v : Option V} (h : Rel K mg H δ σ (d :: ds) (v :: vs)) (hi : i < δ.length) : Rel K mg H (δ.set i d) (σ.set i v) ds vs := by
  obtain ⟨Hs, F, G, s, h1, ⟨v', ws, Fd, Fr0, e3, q1, q2, e4⟩, nd, no⟩ := h
  cases e3
  subst e4
  obtain ⟨v0, Fi, Fr, e1, p1, pm, p2⟩ := vos_at h1 (List.getElem?_eq_getElem hi)
  obtain ⟨F', r1, r2⟩ := p2 Hs H d v Fd (fun _ _ q => q) (fun _ _ q _ => q) (fun _ _ _ q => q) q1
  have pmA : (F' ++ Fr0).Perm (Fr ++ (Fd ++ Fr0)) := by
    refine (List.Perm.append_right Fr0 r2).trans ?_
    rw [← List.append_assoc]
    exact List.Perm.append_right Fr0 List.perm_append_comm
  have pmB : (F ++ (Fd ++ Fr0)).Perm (Fi ++ (Fr ++ (Fd ++ Fr0))) := by
    refine (List.Perm.append_right _ pm).trans ?_
    rw [List.append_assoc]
  have sl := List.sublist_append_right Fi (Fr ++ (Fd ++ Fr0))
  refine ⟨Hs, F', Fr0, s, r1, q2, pmA.nodup_iff.mpr (sl.nodup (pmB.nodup_iff.mp nd)), fun a ha => no a (pmB.mem_iff.mpr (sl.subset (pmA.mem_iff.mp ha)))⟩
/-- a slot is taken out; σ stays -/
theorem Rel.take {i : Nat} {d : Option D} (h : Rel K mg H δ σ ds vs) (e : δ[i]? = some d) : ∃ v, σ[i]? = some v ∧ Rel K mg H (δ.set i none) σ (d :: ds) (v :: vs) := by
  obtain ⟨Hs, F, G, s, h1, h2, nd, no⟩ := h
  obtain ⟨v, Fi, Fr, e1, q1, pm, q2⟩ := vos_at h1 e
  obtain ⟨F', r1, r2⟩ := q2 Hs H none v [] (fun _ _ q => q) (fun _ _ q _ => q) (fun _ _ _ q => q) rfl
  rw [set_same e1] at r1
  have pmA : (F' ++ (Fi ++ G)).Perm (F ++ G) := by
    refine (List.Perm.append_right _ r2).trans ?_
    show (Fr ++ (Fi ++ G)).Perm (F ++ G)
    rw [← List.append_assoc]
    exact List.Perm.append_right G (List.perm_append_comm.trans pm.symm)
  exact ⟨v, e1, Hs, F', Fi ++ G, s, r1, ⟨v, vs, Fi, G, rfl, q1, h2, rfl⟩, pmA.nodup_iff.mpr nd, fun a ha => no a (pmA.mem_iff.mp ha)⟩
/-- front things go into a new tuple -/
theorem Rel.newTup {es : List D} {us : List V} {p : Addr} (hl : us.length = es.length) (h : Rel K mg H δ σ (es.map some ++ ds) (us.map some ++ vs)) (hp : H p = none) :
    Rel K mg (upd H p (.tup us)) δ σ (some (.tup es) :: ds) (some (.ref p) :: vs) := by
  obtain ⟨Hs, F, G, s, h1, h2, nd, no⟩ := h.sub (sub_upd (o := .tup us) hp)
  obtain ⟨ws, ws', G1, G2, e, q1, q2, e2⟩ := vos_split h2
  have hl' : ws.length = (us.map some).length := by rw [vos_len q1, List.length_map, List.length_map, hl]
  obtain ⟨rfl, rfl⟩ := List.append_inj e.symm hl'
  obtain ⟨us', e3, q3⟩ := vos_somes q1
  have e4 : us = us' := (List.map_inj_right (fun _ _ q => Option.some.inj q)).mp e3
  subst e4
  subst e2
  exact ⟨Hs, F, G1 ++ G2, s, h1, ⟨_, _, G1, G2, rfl, ⟨p, us, G1, rfl, .inl (.inl upd_same), q3, rfl⟩, q2, rfl⟩, nd, no⟩
/-- .. into a new object of their own -/
theorem Rel.newOwn {es : List D} {us : List V} {p : Addr} {k : Kd} {o : HO} (hl : us.length = es.length) (h : Rel K mg H δ σ (es.map some ++ ds) (us.map some ++ vs)) (hp : H p = none) (hk : k.isOwn = true)
    (ha : ∀ Hs, At K mg Hs (upd H p o) p us k) : Rel K mg (upd H p o) δ σ (some (.con k es) :: ds) (some (.ref p) :: vs) := by
  have h0 := h
  obtain ⟨Hs0, F0, G0, s0, h10, h20, nd0, no0⟩ := h
  have hpF : p ∉ F0 ++ G0 := fun hm => by
    rcases List.mem_append.mp hm with q | q
    · obtain ⟨o, e, _⟩ := vos_foot h10 p q
      rw [hp] at e
      cases e
    · obtain ⟨o, e, _⟩ := vos_foot h20 p q
      rw [hp] at e
      cases e
  have sb : Sub H (upd H p o) := sub_upd hp
  have h1 := vos_mono (K := K) (mg := mg) (Hs := Hs0) (H := H) (fun _ _ q => q) (fun a u q _ => sb a u q) (fun b _ u q => sb b u q) h10
  have h2 := vos_mono (K := K) (mg := mg) (Hs := Hs0) (H := H) (fun _ _ q => q) (fun a u q _ => sb a u q) (fun b _ u q => sb b u q) h20
  obtain ⟨ws, ws', G1, G2, e, q1, q2, e2⟩ := vos_split h2
  have hl' : ws.length = (us.map some).length := by rw [vos_len q1, List.length_map, List.length_map, hl]
  obtain ⟨rfl, rfl⟩ := List.append_inj e.symm hl'
  obtain ⟨us', e3, q3⟩ := vos_somes q1
  have e4 : us = us' := (List.map_inj_right (fun _ _ q => Option.some.inj q)).mp e3
  subst e4
  subst e2
  refine ⟨Hs0, F0, [p] ++ G1 ++ G2, fun a u q => sb a u (s0 a u q), h1, ⟨_, _, [p] ++ G1, G2, rfl, ⟨p, us, G1, rfl, ha Hs0, q3, by rw [foot_own hk]⟩, q2, rfl⟩, ?_, ?_⟩
  · have pm : (F0 ++ ([p] ++ G1 ++ G2)).Perm (p :: (F0 ++ (G1 ++ G2))) := by
      rw [List.append_assoc]
      exact List.perm_middle
    exact pm.nodup_iff.mpr (List.nodup_cons.mpr ⟨hpF, nd0⟩)
  · intro a hm
    rcases List.mem_append.mp hm with q | q
    · exact no0 a (List.mem_append_left _ q)
    · rw [List.append_assoc] at q
      rcases List.mem_append.mp q with q | q
      · rw [List.mem_singleton.mp q]
        cases hq : Hs0 p with
        | none => rfl
        | some u =>
          rw [s0 p u hq] at hp
          cases hp
      · exact no0 a (List.mem_append_right _ q)
end

/-! ### results -/
abbrev Env := List (Option D)
inductive R (α : Type) where
  | ok (a : α) (δ : Env)
  | exc (c : Str) (fs : List Str) (dp : List D) (δ : Env)
  | bad
def R.bind {α β : Type} (r : R α) (k : α → Env → R β) : R β := match r with
  | .ok a δ => k a δ
  | .exc c fs dp δ => .exc c fs dp δ
  | .bad => .bad
theorem R.bind_ok {α β : Type} {a : α} {δ : Env} {k : α → Env → R β} : (R.ok a δ).bind k = k a δ := rfl
theorem R.bind_exc {α β : Type} {c fs dp} {δ : Env} {k : α → Env → R β} : (R.exc c fs dp δ).bind k = .exc c fs dp δ := rfl
theorem R.bind_bad {α β : Type} {k : α → Env → R β} : (R.bad).bind k = .bad := rfl
abbrev M := Env → R D
abbrev MB := Env → R Bool
inductive RS where
  | nx (δ : Env) | rt (d : D) (δ : Env) | bk (δ : Env) | ct (δ : Env)
  | exc (c : Str) (fs : List Str) (dp : List D) (δ : Env)
  | bad
abbrev MS := Env → RS
/-- what a def hands back: a value, and what its arguments are by then -/
inductive RF where
  | ok (d : D) (as : List (Option D))
  | exc (c : Str) (fs : List Str) (dp : List D) (as : List (Option D))
  | bad
abbrev MF := List D → RF

/-- an exception as it lies: its class, its own dict -/
def XO (mg : Str → Option Value) (H : Hp) (c : Str) (fs : List Str) (vp : List V) (cls : Value) (dd : Option Addr) : Prop :=
  ((∃ C, mg c = some (.ref C) ∧ cls = .ref C) ∨ (∃ n : String, mg c = none ∧ c = Str.ofString n ∧ cls = .type n)) ∧ fs.length = vp.length ∧
  match dd with
  | some d => H d = some (.xd (fs.zip vp))
  | none => fs = []

section
variable (K : PySem.W.Frag) (mg : Str → Option Value) (W : WX)
def PostG {α : Type} (σ : L2.St) (ds : Env) (vs : List (Option V)) (okp : α → Env → Prop) : R α → Prop
  | .ok a δ => okp a δ
  | .exc c fs dp δ => ∀ cls dd vp H', XO mg H' c fs vp cls dd → Rel K mg H' δ σ (dp.map some ++ ds) (vp.map some ++ vs) → vp.length = dp.length → W cls dd σ H'
  | .bad => False
def okE (σ : L2.St) (ds : Env) (vs : List (Option V)) (Q : VK) (d : D) (δ : Env) : Prop := ∀ v H', Rel K mg H' δ σ (some d :: ds) (some v :: vs) → Q v H'
def okB (σ : L2.St) (ds : Env) (vs : List (Option V)) (Q : Bool → Hp → Prop) (b : Bool) (δ : Env) : Prop := ∀ H', Rel K mg H' δ σ ds vs → Q b H'
def okA (σ : L2.St) (ds : Env) (vs : List (Option V)) (Q : List V → Hp → Prop) (l : List D) (δ : Env) : Prop := ∀ ws H', Rel K mg H' δ σ (l.map some ++ ds) (ws.map some ++ vs) → ws.length = l.length → Q ws H'
/-- σ' is σ but at the places A -/
def Agree (A : List Nat) (σ σ' : L2.St) : Prop := ∀ i, i ∉ A → σ'[i]? = σ[i]?
def PostS (A : List Nat) (σ : L2.St) (ds : Env) (vs : List (Option V)) (Dd : Ends) : RS → Prop
  | .nx δ => ∀ σ' H', Agree A σ σ' → Rel K mg H' δ σ' ds vs → Dd.nx σ' H'
  | .rt d δ => ∀ σ' v H', Agree A σ σ' → Rel K mg H' δ σ' (some d :: ds) (some v :: vs) → Dd.rt v H'
  | .bk δ => ∀ σ' H', Agree A σ σ' → Rel K mg H' δ σ' ds vs → Dd.bk σ' H'
  | .ct δ => ∀ σ' H', Agree A σ σ' → Rel K mg H' δ σ' ds vs → Dd.ct σ' H'
  | .exc c fs dp δ => ∀ σ' cls dd vp H', Agree A σ σ' → XO mg H' c fs vp cls dd → Rel K mg H' δ σ' (dp.map some ++ ds) (vp.map some ++ vs) → vp.length = dp.length → W cls dd σ' H'
  | .bad => False
end
section
variable (X : Cx) (W : WX)
def DE (e : Expr) (m : M) : Prop := ∃ t, PE X e t ∧ ∀ σ H δ ds vs Q, Rel X.K X.mg H δ σ ds vs → PostG X.K X.mg W σ ds vs (okE X.K X.mg σ ds vs Q) (m δ) → t σ H Q
def DT (e : Expr) (m : MB) : Prop := ∃ t, PT X e t ∧ ∀ σ H δ ds vs Q, Rel X.K X.mg H δ σ ds vs → PostG X.K X.mg W σ ds vs (okB X.K X.mg σ ds vs Q) (m δ) → t σ H Q
def DW (e : Expr) (m : MB) : Prop := ∃ t, PW X e t ∧ ∀ σ H δ ds vs Q, Rel X.K X.mg H δ σ ds vs → PostG X.K X.mg W σ ds vs (okB X.K X.mg σ ds vs Q) (m δ) → t σ H Q
def DA (es : List Expr) (m : Env → R (List D)) : Prop := ∃ t, PA X es t ∧ ∀ σ H δ ds vs Q, Rel X.K X.mg H δ σ ds vs → PostG X.K X.mg W σ ds vs (okA X.K X.mg σ ds vs Q) (m δ) → t σ H Q
def DS (st : Stmt) (A : List Nat) (m : MS) : Prop := ∃ t, PS X st t ∧ ∀ Dd σ H δ ds vs, Rel X.K X.mg H δ σ ds vs → PostS X.K X.mg W A σ ds vs Dd (m δ) → t Dd σ H
def DSs (st : List Stmt) (A : List Nat) (m : MS) : Prop := ∃ t, PSs X st t ∧ ∀ Dd σ H δ ds vs, Rel X.K X.mg H δ σ ds vs → PostS X.K X.mg W A σ ds vs Dd (m δ) → t Dd σ H
end
theorem Agree.refl (A : List Nat) (σ : L2.St) : Agree A σ σ := fun _ _ => rfl
theorem Agree.mono {A B : List Nat} {σ σ' : L2.St} (h : Agree A σ σ') (e : ∀ i ∈ A, i ∈ B) : Agree B σ σ' := fun i hi => h i fun q => hi (e i q)
theorem Agree.trans {A B : List Nat} {σ σ1 σ2 : L2.St} (h : Agree A σ σ1) (h' : Agree B σ1 σ2) : Agree (A ++ B) σ σ2 := fun i hi => by
  rw [h' i fun q => hi (List.mem_append_right _ q), h i fun q => hi (List.mem_append_left _ q)]
theorem Agree.trans' {A : List Nat} {σ σ1 σ2 : L2.St} (h : Agree A σ σ1) (h' : Agree A σ1 σ2) : Agree A σ σ2 := fun i hi => by
  rw [h' i hi, h i hi]
theorem Agree.set {σ : L2.St} {i : Nat} {v : Option V} : Agree [i] σ (σ.set i v) := fun j hj => by
  rw [List.getElem?_set]
  split
  · rename_i e
    subst e
    exact (hj (List.mem_singleton.mpr rfl)).elim
  · rfl
section
variable {K : PySem.W.Frag} {mg : Str → Option Value} {W : WX} {σ : L2.St} {ds : Env} {vs : List (Option V)}
theorem PostG.imp {α : Type} {okp okp' : α → Env → Prop} {r : R α} (h : PostG K mg W σ ds vs okp r) (q : ∀ a δ, okp a δ → okp' a δ) : PostG K mg W σ ds vs okp' r := by
  cases r with
  | ok a δ => exact q a δ h
  | exc c fs dp δ => exact h
  | bad => exact h
theorem PostG.bind {α β : Type} {okp : α → Env → Prop} {okq : β → Env → Prop} {r : R α} {k : α → Env → R β} (h : PostG K mg W σ ds vs okq (r.bind k)) (q : ∀ a δ, PostG K mg W σ ds vs okq (k a δ) → okp a δ) : PostG K mg W σ ds vs okp r := by
  cases r with
  | ok a δ => exact q a δ h
  | exc c fs dp δ => exact h
  | bad => exact h
/-- more lies beside -/
theorem PostG.more {α : Type} {okp okp' : α → Env → Prop} {r : R α} {l : Env} {w : List (Option V)} (hl : w.length = l.length) (h : PostG K mg W σ ds vs okp r) (q : ∀ a δ, okp a δ → okp' a δ) : PostG K mg W σ (l ++ ds) (w ++ vs) okp' r := by
  cases r with
  | ok a δ => exact q a δ h
  | exc c fs dp δ =>
    intro cls dd vp H' x r hv
    exact h cls dd vp H' x (Rel.dropMid (by rw [List.length_map, List.length_map, hv]) hl r) hv
  | bad => exact h
end
end DN

/-! Dn3: expressions: names, constants, operands that are looked at, displays. -/
namespace DN
open PySem PySem.Spec PyProof.Rows L2

section
variable {X : Cx} {W : WX}
/-! ### names and constants -/
def mVar (i : Nat) : M := fun δ => match δ[i]? with
  | some (some d) => .ok d.frz (δ.set i (some d.frz))
  | _ => .bad
def mMove (i : Nat) : M := fun δ => match δ[i]? with
  | some (some d) => .ok d (δ.set i none)
  | _ => .bad
def mC (d : D) : M := fun δ => .ok d δ
theorem de_var {e : Expr} {i : Nat} (h : PE X e (tVar i)) : DE X W e (mVar i) := by
  refine ⟨tVar i, h, fun σ H δ ds vs Q r p => ?_⟩
  unfold mVar at p
  split at p
  · rename_i d e1
    obtain ⟨v, e2, r2⟩ := r.read e1
    exact ⟨v, e2, p v H r2⟩
  · exact p.elim
theorem de_move {e : Expr} {i : Nat} (h : PE X e (tVar i)) : DE X W e (mMove i) := by
  refine ⟨tVar i, h, fun σ H δ ds vs Q r p => ?_⟩
  unfold mMove at p
  split at p
  · rename_i d e1
    obtain ⟨v, e2, r2⟩ := r.take e1
    cases v with
    | none =>
      obtain ⟨Hs, F, G, s, h1, ⟨v', ws, F1, F2, e3, q1, q2, e4⟩, nd, no⟩ := r2
      cases e3
      exact q1.elim
    | some v => exact ⟨v, e2, p v H r2⟩
  · exact p.elim
def sc : D → V
  | .bl b => .bl b
  | .int i => .int i
  | .str x => .str x
  | _ => .non
def isSc : D → Bool
  | .con _ _ => false
  | _ => true
theorem vr_sc {K : PySem.W.Frag} {mg : Str → Option Value} {Hs H : Hp} : ∀ {d : D}, isSc d = true → Vr K mg Hs H d (sc d) []
  | .non, _ => ⟨rfl, rfl⟩
  | .bl _, _ => ⟨rfl, rfl⟩
  | .int _, _ => ⟨rfl, rfl⟩
  | .str _, _ => ⟨rfl, rfl⟩
theorem de_c {e : Expr} {d : D} (h : PE X e (tC (sc d))) (hd : isSc d = true := by rfl) : DE X W e (mC d) :=
  ⟨_, h, fun σ H δ ds vs Q r p => p _ H (r.push fun _ => vr_sc hd)⟩
theorem de_int {i : Int} {j pos} : DE X W (.Constant (.int i) j pos) (mC (.int i)) := de_c pe_int
theorem de_str {x : Str} {j pos} : DE X W (.Constant (.str x) j pos) (mC (.str x)) := de_c pe_str
theorem de_bl {b : Bool} {j pos} : DE X W (.Constant (.bool b) j pos) (mC (.bl b)) := de_c pe_bl
theorem de_non {j pos} : DE X W (.Constant .none j pos) (mC .non) := de_c pe_non
/-- a constant of the module: d is nobody's own and stands in the written part -/
theorem de_glob {x : Str} {v : V} {u : Value} {pos : Pos} {d : D} (hg : Gl X x) (hm : X.mg x = some u) (r : RelV v u) (q : ∀ Hs H, Vr X.K X.mg Hs H d v []) (hd : (x == ("__debug__" : Str)) = false := by decide) : DE X W (.Name x pos) (mC d) := by
  refine ⟨tC v, pe_glob hg hm r hd, fun σ H δ ds vs Q r p => p _ H ?_⟩
  obtain ⟨Hs, F, G, s, h1, h2, nd, no⟩ := r
  exact ⟨Hs, F, G, s, h1, ⟨some v, vs, [], G, rfl, q Hs H, h2, rfl⟩, nd, no⟩

/-! ### operands that are looked at -/
inductive Opd where
  | nm (i : Nat) | ex (m : M)
def Opd.run : Opd → Env → R D
  | .nm i, δ => match δ[i]? with
    | some (some d) => .ok d δ
    | _ => .bad
  | .ex m, δ => (m δ).bind fun d δ1 => .ok d.frz δ1
def Opd.get : Opd → D → Env → Option D
  | .nm i, _, δ => (δ[i]?).join
  | .ex _, d, _ => some d
def runs : List Opd → Env → R (List D)
  | [], δ => .ok [] δ
  | o :: os, δ => (o.run δ).bind fun d δ1 => (runs os δ1).bind fun l δ2 => .ok (d :: l) δ2
def gets : List Opd → List D → Env → Option (List D)
  | [], [], _ => some []
  | o :: os, d :: l, δ => (o.get d δ).bind fun x => (gets os l δ).map fun xs => x :: xs
  | _, _, _ => none
variable (X W) in
def DO (e : Expr) : Opd → Prop
  | .nm i => PE X e (tVar i)
  | .ex m => DE X W e m
variable (X W) in
def DOs : List Expr → List Opd → Prop
  | [], [] => True
  | e :: es, o :: os => DO X W e o ∧ DOs es os
  | _, _ => False
variable (X) in
def PEs : List Expr → List TE → Prop
  | [], [] => True
  | e :: es, t :: ts => PE X e t ∧ PEs es ts
  | _, _ => False
def tArgs : List TE → L2.St → Hp → (List V → Hp → Prop) → Prop
  | [], _, H, k => k [] H
  | t :: ts, σ, H, k => t σ H fun x H1 => tArgs ts σ H1 fun xs H2 => k (x :: xs) H2
theorem pa_args : ∀ {es : List Expr} {ts : List TE}, PEs X es ts → (∀ e ∈ es, ∀ r, starEach (e :: r) X.env = (false, eval e X.env) :: starEach r X.env) → PA X es (tArgs ts)
  | [], [], _, _ => pa_nil
  | e :: es, t :: ts, h, hs => pa_cons h.1 (pa_args h.2 fun e' he r => hs e' (List.mem_cons_of_mem _ he) r) (hs e List.mem_cons_self es)
def Has1 (σ : L2.St) (ts : Env) (us : List (Option V)) (o : Opd) (d : D) (w : V) : Prop := match o with
  | .nm i => σ[i]? = some (some w)
  | .ex _ => ∃ j, j < ts.length ∧ ts[j]? = some (some d) ∧ us[j]? = some (some w)
def Has (σ : L2.St) (ts : Env) (us : List (Option V)) : List Opd → List D → List V → Prop
  | [], [], [] => True
  | o :: os, d :: l, w :: ws => Has1 σ ts us o d w ∧ Has σ ts us os l ws
  | _, _, _ => False
theorem Has1.more {σ : L2.St} {ts l : Env} {us w : List (Option V)} {o : Opd} {d : D} {v : V} (hl : w.length = l.length) (h : Has1 σ ts us o d v) : Has1 σ (l ++ ts) (w ++ us) o d v := by
  cases o with
  | nm i => exact h
  | ex m =>
    obtain ⟨j, h0, h1, h2⟩ := h
    refine ⟨l.length + j, by rw [List.length_append]; omega, ?_, ?_⟩
    · rw [List.getElem?_append_right (by omega), Nat.add_sub_cancel_left]
      exact h1
    · rw [List.getElem?_append_right (by omega), ← hl, Nat.add_sub_cancel_left]
      exact h2
theorem Has1.less {σ : L2.St} {ts l : Env} {us w : List (Option V)} {o : Opd} {d : D} {v : V} (hl : us.length = ts.length) (h : Has1 σ ts us o d v) : Has1 σ (ts ++ l) (us ++ w) o d v := by
  cases o with
  | nm i => exact h
  | ex m =>
    obtain ⟨j, h0, h1, h2⟩ := h
    refine ⟨j, by rw [List.length_append]; omega, ?_, ?_⟩
    · rw [List.getElem?_append_left h0]
      exact h1
    · rw [List.getElem?_append_left (by omega)]
      exact h2
theorem Has.less {σ : L2.St} {ts l : Env} {us w : List (Option V)} (hl : us.length = ts.length) : ∀ {os : List Opd} {ds : List D} {vs : List V}, Has σ ts us os ds vs → Has σ (ts ++ l) (us ++ w) os ds vs
  | [], [], [], _ => trivial
  | o :: os, d :: ds, v :: vs, h => ⟨h.1.less hl, Has.less hl h.2⟩
theorem Has.more {σ : L2.St} {ts l : Env} {us w : List (Option V)} (hl : w.length = l.length) : ∀ {os : List Opd} {ds : List D} {vs : List V}, Has σ ts us os ds vs → Has σ (l ++ ts) (w ++ us) os ds vs
  | [], [], [], _ => trivial
  | o :: os, d :: ds, v :: vs, h => ⟨h.1.more hl, Has.more hl h.2⟩
def okO (K : PySem.W.Frag) (mg : Str → Option Value) (σ : L2.St) (ds : Env) (vs : List (Option V)) (os : List Opd) (k : List V → Hp → Prop) (l : List D) (δ : Env) : Prop :=
  ∀ ws H' ts us, Rel K mg H' δ σ (ts ++ ds) (us ++ vs) → us.length = ts.length → Has σ ts us os l ws → k ws H'
theorem Rel.slot {K : PySem.W.Frag} {mg : Str → Option Value} {H : Hp} {δ ds : Env} {σ vs : List (Option V)} {i : Nat} {d : D} (r : Rel K mg H δ σ ds vs) (e : δ[i]? = some (some d)) : ∃ v, σ[i]? = some (some v) := by
  obtain ⟨Hs, F, G, s, h1, h2, nd, no⟩ := r
  obtain ⟨v, Fi, Fr, e1, q1, _, _⟩ := vos_at h1 e
  cases v with
  | none => exact q1.elim
  | some v => exact ⟨v, e1⟩
theorem opds_ok : ∀ {es : List Expr} {os : List Opd}, DOs X W es os → ∃ ts, PEs X es ts ∧ ∀ σ H δ ds vs k, Rel X.K X.mg H δ σ ds vs → PostG X.K X.mg W σ ds vs (okO X.K X.mg σ ds vs os k) (runs os δ) → tArgs ts σ H k
  | [], [], _ => ⟨[], trivial, fun σ H δ ds vs k r p => p [] H [] [] r rfl trivial⟩
  | e :: es, .nm i :: os, h => by
    obtain ⟨ts, h1, h2⟩ := opds_ok h.2
    refine ⟨tVar i :: ts, ⟨h.1, h1⟩, fun σ H δ ds vs k r p => ?_⟩
    cases hd : δ[i]? with
    | none => simp only [runs, Opd.run, hd, R.bind, PostG] at p
    | some od =>
      cases od with
      | none => simp only [runs, Opd.run, hd, R.bind, PostG] at p
      | some d =>
        simp only [runs, Opd.run, hd, R.bind_ok] at p
        obtain ⟨v, hv⟩ := r.slot hd
        refine ⟨v, hv, ?_⟩
        refine h2 σ H δ ds vs _ r (p.bind fun l δ2 hp => ?_)
        intro ws H' ts us r' hl has
        exact hp (v :: ws) H' ts us r' hl ⟨hv, has⟩
  | e :: es, .ex m :: os, h => by
    obtain ⟨ts, h1, h2⟩ := opds_ok h.2
    obtain ⟨t, g1, g2⟩ := h.1
    refine ⟨t :: ts, ⟨g1, h1⟩, fun σ H δ ds vs k r p => ?_⟩
    refine g2 σ H δ ds vs _ r ?_
    cases hm : m δ with
    | bad => simp only [runs, Opd.run, hm, R.bind, PostG] at p
    | exc c fs dp δ1 =>
      simp only [runs, Opd.run, hm, R.bind] at p
      exact p
    | ok d1 δ1 =>
      simp only [runs, Opd.run, hm, R.bind_ok] at p
      intro v H' r'
      refine h2 σ H' δ1 (some d1.frz :: ds) (some v :: vs) _ r'.frzTop ?_
      refine PostG.more (l := [some d1.frz]) (w := [some v]) rfl (p.bind (okp := fun l δ2 => okO X.K X.mg σ ds vs (.ex m :: os) k (d1.frz :: l) δ2) fun l δ2 hp => hp) fun l δ2 hp => ?_
      intro ws H2 ts us r2 hl has
      refine hp (v :: ws) H2 (ts ++ [some d1.frz]) (us ++ [some v]) ?_ ?_ ⟨⟨ts.length, ?_, ?_, ?_⟩, has.less hl⟩
      · rw [List.append_assoc, List.append_assoc]
        exact r2
      · rw [List.length_append, List.length_append, hl]
        rfl
      · rw [List.length_append]
        exact Nat.lt_succ_self _
      · rw [List.getElem?_append_right (Nat.le_refl _), Nat.sub_self]
        rfl
      · rw [← hl, List.getElem?_append_right (Nat.le_refl _), Nat.sub_self]
        rfl
/-- what operands show -/
def Vws (K : PySem.W.Frag) (mg : Str → Option Value) (Hs H : Hp) : List D → List V → Prop
  | [], [] => True
  | d :: ds, v :: vs => (∃ F, Vr K mg Hs H d v F) ∧ Vws K mg Hs H ds vs
  | _, _ => False
theorem views {K : PySem.W.Frag} {mg : Str → Option Value} {Hs H : Hp} {δ ts : Env} {σ us : List (Option V)} {F G : List Addr} (h1 : Vos K mg Hs H δ σ F) (h2 : Vos K mg Hs H ts us G) :
    ∀ {os : List Opd} {l xs : List D} {ws : List V}, Has σ ts us os l ws → gets os l δ = some xs → Vws K mg Hs H xs ws
  | [], [], xs, [], _, e => by
    cases e
    trivial
  | o :: os, d :: l, xs, w :: ws, h, e => by
    unfold gets at e
    cases hx : o.get d δ with
    | none =>
      rw [hx] at e
      cases e
    | some x =>
      rw [hx] at e
      cases hq : gets os l δ with
      | none =>
        rw [Option.bind_some, hq] at e
        cases e
      | some xs' =>
        rw [Option.bind_some, hq] at e
        cases e
        refine ⟨?_, views h1 h2 h.2 hq⟩
        cases o with
        | nm i =>
          have hx' : (δ[i]?).join = some x := hx
          cases hd : δ[i]? with
          | none =>
            rw [hd] at hx'
            cases hx'
          | some od =>
            rw [hd] at hx'
            have : od = some x := hx'
            subst this
            obtain ⟨v, Fi, Fr, e1, q1, _, _⟩ := vos_at h1 hd
            have hs : σ[i]? = some (some w) := h.1
            rw [hs] at e1
            cases e1
            exact ⟨Fi, q1⟩
        | ex m =>
          cases hx
          obtain ⟨j, j0, j1, j2⟩ := h.1
          obtain ⟨v, Fi, Fr, e1, q1, _, _⟩ := vos_at h2 j1
          rw [j2] at e1
          cases e1
          exact ⟨Fi, q1⟩
/-- what an operation gives: a thing that nobody holds, or a new object of such things -/
inductive Nk where
  | tup | lst | dic (ks : List Key)
def Nk.kd : Nk → Kd
  | .tup => .tup
  | .lst => .lst .own
  | .dic ks => .dic .own ks
theorem Nk.ok : ∀ k : Nk, k.kd.isOwn = true ∨ k.kd = .tup
  | .tup => .inr rfl
  | .lst => .inl rfl
  | .dic _ => .inl rfl
inductive Res where
  | val (d : D) | new (k : Nk) (ds : List D) | bad
def Res.fin : Res → Env → R D
  | .val d, δ => .ok d δ
  | .new k ds, δ => .ok (.con k.kd ds) δ
  | .bad, _ => .bad
variable (X) in
def ResOK (Hs H : Hp) : Res → VK → Prop
  | .val d, Q => ∀ v, Vr X.K X.mg Hs H d v [] → Q v H
  | .new k ds, Q => ∀ p us o, H p = none → Vrs X.K X.mg Hs H ds us [] → (∀ Hs, At X.K X.mg Hs (upd H p o) p us k.kd) → Q (.ref p) (upd H p o)
  | .bad, _ => False
variable (X) in
def OKr (r : List V → Hp → VK → Prop) (f : List D → Res) : Prop := ∀ Hs H xs ws Q, Sub Hs H → Vws X.K X.mg Hs H xs ws → ResOK X Hs H (f xs) Q → r ws H Q
def mOp (f : List D → Res) (os : List Opd) : M := fun δ => (runs os δ).bind fun l δ' => match gets os l δ' with
  | some xs => (f xs).fin δ'
  | none => .bad
theorem Rel.newAny {K : PySem.W.Frag} {mg : Str → Option Value} {H : Hp} {δ ds : Env} {σ vs : List (Option V)} {es : List D} {us : List V} {p : Addr} {k : Kd} {o : HO} (hl : us.length = es.length) (h : Rel K mg H δ σ (es.map some ++ ds) (us.map some ++ vs)) (hp : H p = none)
    (hk : k.isOwn = true ∨ k = .tup) (ha : ∀ Hs, At K mg Hs (upd H p o) p us k) : Rel K mg (upd H p o) δ σ (some (.con k es) :: ds) (some (.ref p) :: vs) := by
  rcases hk with hk | hk
  · exact h.newOwn hl hp hk ha
  · subst hk
    obtain ⟨Hs, F, G, s, h1, h2, nd, no⟩ := h.sub (sub_upd (o := o) hp)
    obtain ⟨ws, ws', G1, G2, e, q1, q2, e2⟩ := vos_split h2
    have hl' : ws.length = (us.map some).length := by rw [vos_len q1, List.length_map, List.length_map, hl]
    obtain ⟨rfl, rfl⟩ := List.append_inj e.symm hl'
    obtain ⟨us', e3, q3⟩ := vos_somes q1
    have e4 : us = us' := (List.map_inj_right (fun _ _ q => Option.some.inj q)).mp e3
    subst e4
    subst e2
    exact ⟨Hs, F, G1 ++ G2, s, h1, ⟨_, _, G1, G2, rfl, ⟨p, us, G1, rfl, ha Hs, q3, rfl⟩, q2, rfl⟩, nd, no⟩
/-- the end of an operation -/
theorem op_end {r : List V → Hp → VK → Prop} {f : List D → Res} (hf : OKr X r f) {σ : L2.St} {ds : Env} {vs : List (Option V)} {Q : VK} {os : List Opd} {l : List D} {δ : Env}
    (p : PostG X.K X.mg W σ ds vs (okE X.K X.mg σ ds vs Q) (match gets os l δ with
      | some xs => (f xs).fin δ
      | none => .bad)) : okO X.K X.mg σ ds vs os (fun ws H' => r ws H' Q) l δ := by
  intro ws H' ts us r' hl has
  cases hg : gets os l δ with
  | none =>
    rw [hg] at p
    exact p.elim
  | some xs =>
    rw [hg] at p
    have p' : PostG X.K X.mg W σ ds vs (okE X.K X.mg σ ds vs Q) ((f xs).fin δ) := p
    obtain ⟨Hs, F, G, s, h1, h2, nd, no⟩ := r'
    obtain ⟨us1, us2, G1, G2, e, q1, q2, e2⟩ := vos_split h2
    have hl' : us1.length = us.length := by rw [vos_len q1, hl]
    obtain ⟨rfl, rfl⟩ := List.append_inj e.symm hl'
    have V := views h1 q1 has hg
    subst e2
    have sl : List.Sublist (F ++ G2) (F ++ (G1 ++ G2)) := List.Sublist.append_left (List.sublist_append_right G1 G2) F
    have nd2 := sl.nodup nd
    have no2 : ∀ a ∈ F ++ G2, Hs a = none := fun a ha => no a (sl.subset ha)
    refine hf Hs H' xs ws Q s V ?_
    cases hr : f xs with
    | val d =>
      rw [hr] at p'
      intro v hv
      exact p' v H' ⟨Hs, F, G2, s, h1, ⟨some v, us2, [], G2, rfl, hv, q2, rfl⟩, nd2, no2⟩
    | new k es =>
      rw [hr] at p'
      intro p0 us0 o hp hv ha
      have r3 : Rel X.K X.mg H' δ σ (es.map some ++ ds) (us0.map some ++ us2) := ⟨Hs, F, [] ++ G2, s, h1, vos_append (vos_of hv) q2, nd2, no2⟩
      exact p' (.ref p0) _ (r3.newAny (vrs_len hv) hp k.ok ha)
    | bad =>
      rw [hr] at p'
      exact p'.elim
theorem de_op {e : Expr} {es : List Expr} {os : List Opd} {r : List V → Hp → VK → Prop} {f : List D → Res} (hd : DOs X W es os) (ho : ∀ ts, PEs X es ts → PE X e (fun σ H Q => tArgs ts σ H fun ws H' => r ws H' Q)) (hf : OKr X r f) : DE X W e (mOp f os) := by
  obtain ⟨ts, h1, h2⟩ := opds_ok hd
  refine ⟨_, ho ts h1, fun σ H δ ds vs Q r' p => ?_⟩
  exact h2 σ H δ ds vs _ r' (p.bind fun l δ' hp => op_end hf hp)
/-! ### displays: things are handed on -/
theorem da_nil : DA X W [] (fun δ => .ok [] δ) := ⟨tNil, pa_nil, fun σ H δ ds vs Q r p => p [] H r rfl⟩
def mCons (m : M) (ms : Env → R (List D)) : Env → R (List D) := fun δ => (m δ).bind fun d δ1 => (ms δ1).bind fun l δ2 => .ok (d :: l) δ2
theorem da_cons {e : Expr} {es : List Expr} {m : M} {ms : Env → R (List D)} (h : DE X W e m) (hs : DA X W es ms) (hst : starEach (e :: es) X.env = (false, eval e X.env) :: starEach es X.env := by rfl) : DA X W (e :: es) (mCons m ms) := by
  obtain ⟨t, g1, g2⟩ := h
  obtain ⟨ts, h1, h2⟩ := hs
  refine ⟨tCons t ts, pa_cons g1 h1 hst, fun σ H δ ds vs Q r p => ?_⟩
  refine g2 σ H δ ds vs _ r (p.bind fun d δ1 hp => ?_)
  intro v H1 r1
  refine h2 σ H1 δ1 (some d :: ds) (some v :: vs) _ r1 ?_
  refine PostG.more (l := [some d]) (w := [some v]) rfl (hp.bind (okp := fun l δ2 => okA X.K X.mg σ ds vs Q (d :: l) δ2) fun l δ2 q => q) fun l δ2 q => ?_
  intro ws H2 r2 hl
  exact q (v :: ws) H2 (r2.front (by rw [List.length_map, List.length_map, hl])) (by rw [List.length_cons, List.length_cons, hl])
def mTup (ms : Env → R (List D)) : M := fun δ => (ms δ).bind fun l δ1 => if l.length ≤ sizeLine then .ok (.tup l) δ1 else .bad
def mLst (ms : Env → R (List D)) : M := fun δ => (ms δ).bind fun l δ1 => if l.length ≤ sizeLine then .ok (.lst .own l) δ1 else .bad
theorem de_tup {es : List Expr} {ms : Env → R (List D)} {x1 : Nat} {pos : Pos} (h : DA X W es ms) : DE X W (.Tuple es x1 pos) (mTup ms) := by
  obtain ⟨ts, h1, h2⟩ := h
  refine ⟨tTup ts, pe_tup h1, fun σ H δ ds vs Q r p => ?_⟩
  refine h2 σ H δ ds vs _ r (p.bind fun l δ1 hp => ?_)
  intro ws H1 r1 hl
  by_cases hz : l.length ≤ sizeLine
  · rw [if_pos hz] at hp
    exact ⟨by rw [hl]; exact hz, fun q hq => hp (.ref q) _ (r1.newTup hl hq)⟩
  · rw [if_neg hz] at hp
    exact hp.elim
theorem de_lst {es : List Expr} {ms : Env → R (List D)} {pos : Pos} (h : DA X W es ms) : DE X W (.List es pos) (mLst ms) := by
  obtain ⟨ts, h1, h2⟩ := h
  refine ⟨tLst ts, pe_lst h1, fun σ H δ ds vs Q r p => ?_⟩
  refine h2 σ H δ ds vs _ r (p.bind fun l δ1 hp => ?_)
  intro ws H1 r1 hl
  by_cases hz : l.length ≤ sizeLine
  · rw [if_pos hz] at hp
    exact ⟨by rw [hl]; exact hz, fun q hq => hp (.ref q) _ (r1.newOwn hl hq rfl fun Hs => upd_same)⟩
  · rw [if_neg hz] at hp
    exact hp.elim
/-! ### tests -/
def mB (m : M) : MB := fun δ => (m δ).bind fun d δ1 => match d with
  | .bl b => .ok b δ1
  | _ => .bad
theorem bl_of {K : PySem.W.Frag} {mg : Str → Option Value} {H : Hp} {δ ds : Env} {σ vs : List (Option V)} {b : Bool} {v : V} (r : Rel K mg H δ σ (some (.bl b) :: ds) (some v :: vs)) : v = .bl b := by
  obtain ⟨Hs, F, G, s, h1, ⟨v', ws, F1, F2, e3, q1, q2, e4⟩, nd, no⟩ := r
  cases e3
  exact q1.1
theorem test_of {t : TE} {m : M} (h2 : ∀ σ H δ ds vs Q, Rel X.K X.mg H δ σ ds vs → PostG X.K X.mg W σ ds vs (okE X.K X.mg σ ds vs Q) (m δ) → t σ H Q) :
    ∀ σ H δ ds vs Q, Rel X.K X.mg H δ σ ds vs → PostG X.K X.mg W σ ds vs (okB X.K X.mg σ ds vs Q) (mB m δ) → t σ H fun x H' => ∃ k, x = .bl k ∧ Q k H' := by
  intro σ H δ ds vs Q r p
  refine h2 σ H δ ds vs _ r (p.bind fun d δ1 hp => ?_)
  intro v H1 r1
  cases d with
  | bl b => exact ⟨b, bl_of r1, hp H1 r1.tail⟩
  | non => exact hp.elim
  | int i => exact hp.elim
  | str x => exact hp.elim
  | con k l => exact hp.elim
theorem dt_val {e : Expr} {m : M} (h : DE X W e m) (he : ∀ whole, isTrue e X.env whole = (do let v ← whole; standAt e.pos; holding [v] (truthy v)) := by intro _; rfl) : DT X W e (mB m) := by
  obtain ⟨t, h1, h2⟩ := h
  exact ⟨_, pt_val h1 he, test_of h2⟩
/-- a comparison as a test: r its operator's rule -/
def rB (r : R2) : List V → Hp → VK → Prop := fun ws H Q => match ws with
  | [x, y] => r x y H Q
  | _ => False
def rU (r : V → Hp → VK → Prop) : List V → Hp → VK → Prop := fun ws H Q => match ws with
  | [x] => r x H Q
  | _ => False
theorem de_bin {a b : Expr} {op : Operator} {oa ob : Opd} {r : R2} {f : List D → Res} {pos : Pos} (hp : OpR X (binaryOp op) r) (hf : OKr X (rB r) f) (ha : DO X W a oa) (hb : DO X W b ob) : DE X W (.BinOp a op b pos) (mOp f [oa, ob]) :=
  de_op (es := [a, b]) (os := [oa, ob]) ⟨ha, hb, trivial⟩ (fun ts h => match ts, h with
    | [t1, t2], h => pe_op hp h.1 h.2.1) hf
theorem de_un {a : Expr} {op : UnaryOp} {oa : Opd} {r : V → Hp → VK → Prop} {f : List D → Res} {pos : Pos} (hp : UnR X (unaryOp op) r) (hf : OKr X (rU r) f) (ha : DO X W a oa) : DE X W (.UnaryOp op a pos) (mOp f [oa]) :=
  de_op (es := [a]) (os := [oa]) ⟨ha, trivial⟩ (fun ts h => match ts, h with
    | [t1], h => pe_un hp h.1) hf
theorem de_cmp {a b : Expr} {op : CmpOp} {oa ob : Opd} {r : R2} {f : List D → Res} {pos : Pos} (hp : OpR X (compareOp op) r) (hf : OKr X (rB r) f) (ha : DO X W a oa) (hb : DO X W b ob) (hm : behindInMarks op b = false) : DE X W (.Compare a [op] [b] pos) (mOp f [oa, ob]) :=
  de_op (es := [a, b]) (os := [oa, ob]) ⟨ha, hb, trivial⟩ (fun ts h => match ts, h with
    | [t1, t2], h => pe_cmpR hp h.1 h.2.1 hm) hf
theorem dt_cmp {a b : Expr} {op : CmpOp} {oa ob : Opd} {r : R2} {f : List D → Res} {pos : Pos} (hp : OpR X (compareOp op) r) (hf : OKr X (rB r) f) (ha : DO X W a oa) (hb : DO X W b ob) (hm : behindInMarks op b = false) : DT X W (.Compare a [op] [b] pos) (mB (mOp f [oa, ob])) := by
  obtain ⟨ts, h1, h2⟩ := opds_ok (X := X) (W := W) (es := [a, b]) (os := [oa, ob]) ⟨ha, hb, trivial⟩
  match ts, h1, h2 with
  | [t1, t2], h1, h2 =>
    refine ⟨_, pt_cmpR hp h1.1 h1.2.1 hm, test_of (m := mOp f [oa, ob]) fun σ H δ ds vs Q r' p => ?_⟩
    exact h2 σ H δ ds vs (fun ws H' => rB r ws H' Q) r' (p.bind fun l δ' hp => op_end hf hp)
theorem dt_not {a : Expr} {m : MB} {pos : Pos} (h : DT X W a m) : DT X W (.UnaryOp .Not a pos) (fun δ => (m δ).bind fun b δ1 => .ok (!b) δ1) := by
  obtain ⟨t, h1, h2⟩ := h
  refine ⟨tNot t, pt_not h1, fun σ H δ ds vs Q r p => ?_⟩
  exact h2 σ H δ ds vs _ r (p.bind fun b δ1 hp => fun H1 r1 => hp H1 r1)
def mAnd (m1 m2 : MB) : MB := fun δ => (m1 δ).bind fun b δ1 => if b = true then m2 δ1 else .ok false δ1
def mOr (m1 m2 : MB) : MB := fun δ => (m1 δ).bind fun b δ1 => if b = true then .ok true δ1 else m2 δ1
def mNot (m : MB) : MB := fun δ => (m δ).bind fun b δ1 => .ok (!b) δ1
theorem dt_not' {a : Expr} {m : MB} {pos : Pos} (h : DT X W a m) : DT X W (.UnaryOp .Not a pos) (mNot m) := dt_not h
theorem dw_and1 {a : Expr} {m : MB} {pos : Pos} (h : DT X W a m) : DW X W (.BoolOp .And [a] pos) m := by
  obtain ⟨t, h1, h2⟩ := h
  exact ⟨t, pw_and1 h1, h2⟩
theorem dw_or1 {a : Expr} {m : MB} {pos : Pos} (h : DT X W a m) : DW X W (.BoolOp .Or [a] pos) m := by
  obtain ⟨t, h1, h2⟩ := h
  exact ⟨t, pw_or1 h1, h2⟩
theorem dw_and {a b : Expr} {rest : List Expr} {m m2 : MB} {pos : Pos} (h : DT X W a m) (h' : DW X W (.BoolOp .And (b :: rest) pos) m2) : DW X W (.BoolOp .And (a :: b :: rest) pos) (mAnd m m2) := by
  obtain ⟨t, h1, h2⟩ := h
  obtain ⟨u, g1, g2⟩ := h'
  refine ⟨tAnd t u, pw_and h1 g1, fun σ H δ ds vs Q r p => ?_⟩
  refine h2 σ H δ ds vs _ r (p.bind fun b δ1 hp => fun H1 r1 => ?_)
  cases b with
  | true =>
    show (if true = true then u σ H1 Q else Q false H1)
    rw [if_pos rfl]
    rw [if_pos rfl] at hp
    exact g2 σ H1 δ1 ds vs Q r1 hp
  | false =>
    show (if false = true then u σ H1 Q else Q false H1)
    rw [if_neg Bool.false_ne_true]
    rw [if_neg Bool.false_ne_true] at hp
    exact hp H1 r1
theorem dw_or {a b : Expr} {rest : List Expr} {m m2 : MB} {pos : Pos} (h : DT X W a m) (h' : DW X W (.BoolOp .Or (b :: rest) pos) m2) : DW X W (.BoolOp .Or (a :: b :: rest) pos) (mOr m m2) := by
  obtain ⟨t, h1, h2⟩ := h
  obtain ⟨u, g1, g2⟩ := h'
  refine ⟨tOr t u, pw_or h1 g1, fun σ H δ ds vs Q r p => ?_⟩
  refine h2 σ H δ ds vs _ r (p.bind fun b δ1 hp => fun H1 r1 => ?_)
  cases b with
  | true =>
    show (if true = true then Q true H1 else u σ H1 Q)
    rw [if_pos rfl]
    rw [if_pos rfl] at hp
    exact hp H1 r1
  | false =>
    show (if false = true then Q true H1 else u σ H1 Q)
    rw [if_neg Bool.false_ne_true]
    rw [if_neg Bool.false_ne_true] at hp
    exact g2 σ H1 δ1 ds vs Q r1 hp
theorem dt_w {e : Expr} {m : MB} (h : DW X W e m) : DT X W e m := by
  obtain ⟨t, h1, h2⟩ := h
  exact ⟨t, h1.pt, h2⟩
/-- a if t else b -/
def mIf {α : Type} (mt : MB) (m1 m2 : Env → R α) : Env → R α := fun δ => (mt δ).bind fun b δ1 => if b = true then m1 δ1 else m2 δ1
theorem de_if {c a b : Expr} {mt : MB} {m1 m2 : M} {pos : Pos} (hc : DT X W c mt) (ha : DE X W a m1) (hb : DE X W b m2) : DE X W (.IfExp c a b pos) (mIf mt m1 m2) := by
  obtain ⟨t, h1, h2⟩ := hc
  obtain ⟨ta, a1, a2⟩ := ha
  obtain ⟨tb, b1, b2⟩ := hb
  refine ⟨tIf t ta tb, pe_ifExp h1 a1 b1, fun σ H δ ds vs Q r p => ?_⟩
  refine h2 σ H δ ds vs _ r (p.bind fun b δ1 hp => fun H1 r1 => ?_)
  cases b with
  | true =>
    show (if true = true then ta σ H1 Q else tb σ H1 Q)
    rw [if_pos rfl]
    rw [if_pos rfl] at hp
    exact a2 σ H1 δ1 ds vs Q r1 hp
  | false =>
    show (if false = true then ta σ H1 Q else tb σ H1 Q)
    rw [if_neg Bool.false_ne_true]
    rw [if_neg Bool.false_ne_true] at hp
    exact b2 σ H1 δ1 ds vs Q r1 hp
/-- a and b, a or b as values, all but the last True or False; not a -/
def mAndV (m1 m2 : M) : M := fun δ => (m1 δ).bind fun d δ1 => match d with
  | .bl true => m2 δ1
  | .bl false => .ok (.bl false) δ1
  | _ => .bad
def mOrV (m1 m2 : M) : M := fun δ => (m1 δ).bind fun d δ1 => match d with
  | .bl true => .ok (.bl true) δ1
  | .bl false => m2 δ1
  | _ => .bad
def mNotV (m : M) : M := fun δ => (m δ).bind fun d δ1 => match d with
  | .bl b => .ok (.bl (!b)) δ1
  | _ => .bad
theorem de_one {a : Expr} {op : BoolOp} {m : M} {pos : Pos} (h : DE X W a m) : DE X W (.BoolOp op [a] pos) m := by
  obtain ⟨t, h1, h2⟩ := h
  exact ⟨t, pe_one h1, h2⟩
theorem de_and {a b : Expr} {rest : List Expr} {m1 m2 : M} {pos : Pos} (h : DE X W a m1) (h' : DE X W (.BoolOp .And (b :: rest) pos) m2) : DE X W (.BoolOp .And (a :: b :: rest) pos) (mAndV m1 m2) := by
  obtain ⟨t, h1, h2⟩ := h
  obtain ⟨u, g1, g2⟩ := h'
  refine ⟨tAndV t u, pe_and h1 g1, fun σ H δ ds vs Q r p => ?_⟩
  refine h2 σ H δ ds vs _ r (p.bind fun d δ1 hp => fun v H1 r1 => ?_)
  cases d with
  | bl b =>
    refine ⟨b, bl_of r1, ?_⟩
    cases b with
    | true =>
      rw [if_pos rfl]
      exact g2 σ H1 δ1 ds vs Q r1.tail hp
    | false =>
      rw [if_neg Bool.false_ne_true]
      have e := bl_of r1
      subst e
      exact hp _ H1 r1
  | non => exact hp.elim
  | int i => exact hp.elim
  | str x => exact hp.elim
  | con k l => exact hp.elim
theorem de_or {a b : Expr} {rest : List Expr} {m1 m2 : M} {pos : Pos} (h : DE X W a m1) (h' : DE X W (.BoolOp .Or (b :: rest) pos) m2) : DE X W (.BoolOp .Or (a :: b :: rest) pos) (mOrV m1 m2) := by
  obtain ⟨t, h1, h2⟩ := h
  obtain ⟨u, g1, g2⟩ := h'
  refine ⟨tOrV t u, pe_or h1 g1, fun σ H δ ds vs Q r p => ?_⟩
  refine h2 σ H δ ds vs _ r (p.bind fun d δ1 hp => fun v H1 r1 => ?_)
  cases d with
  | bl b =>
    refine ⟨b, bl_of r1, ?_⟩
    cases b with
    | true =>
      rw [if_pos rfl]
      have e := bl_of r1
      subst e
      exact hp _ H1 r1
    | false =>
      rw [if_neg Bool.false_ne_true]
      exact g2 σ H1 δ1 ds vs Q r1.tail hp
  | non => exact hp.elim
  | int i => exact hp.elim
  | str x => exact hp.elim
  | con k l => exact hp.elim
theorem de_not {a : Expr} {m : M} {pos : Pos} (h : DE X W a m) : DE X W (.UnaryOp .Not a pos) (mNotV m) := by
  obtain ⟨t, h1, h2⟩ := h
  refine ⟨tNotV t, pe_not h1, fun σ H δ ds vs Q r p => ?_⟩
  refine h2 σ H δ ds vs _ r (p.bind fun d δ1 hp => fun v H1 r1 => ?_)
  cases d with
  | bl b => exact ⟨b, bl_of r1, hp _ H1 (r1.tail.push fun Hs => ⟨rfl, rfl⟩)⟩
  | non => exact hp.elim
  | int i => exact hp.elim
  | str x => exact hp.elim
  | con k l => exact hp.elim
end
end DN

/-! Dn4: statements, defs, calls. -/
namespace DN
open PySem PySem.Spec PyProof.Rows L2

section
variable {X : Cx} {W : WX}
theorem PostS.mono {A B : List Nat} {σ : L2.St} {ds : Env} {vs : List (Option V)} {Dd : Ends} {r : RS} (h : PostS X.K X.mg W B σ ds vs Dd r) (e : ∀ i ∈ A, i ∈ B) : PostS X.K X.mg W A σ ds vs Dd r := by
  cases r with
  | nx δ => exact fun σ' H' a r => h σ' H' (a.mono e) r
  | rt d δ => exact fun σ' v H' a r => h σ' v H' (a.mono e) r
  | bk δ => exact fun σ' H' a r => h σ' H' (a.mono e) r
  | ct δ => exact fun σ' H' a r => h σ' H' (a.mono e) r
  | exc c fs dp δ => exact fun σ' cls dd vp H' a x r hv => h σ' cls dd vp H' (a.mono e) x r hv
  | bad => exact h
theorem PostS.later {A B : List Nat} {σ σ1 : L2.St} {ds : Env} {vs : List (Option V)} {Dd : Ends} {r : RS} (h : PostS X.K X.mg W (A ++ B) σ ds vs Dd r) (e : Agree A σ σ1) : PostS X.K X.mg W B σ1 ds vs Dd r := by
  cases r with
  | nx δ => exact fun σ' H' a r => h σ' H' (e.trans a) r
  | rt d δ => exact fun σ' v H' a r => h σ' v H' (e.trans a) r
  | bk δ => exact fun σ' H' a r => h σ' H' (e.trans a) r
  | ct δ => exact fun σ' H' a r => h σ' H' (e.trans a) r
  | exc c fs dp δ => exact fun σ' cls dd vp H' a x r hv => h σ' cls dd vp H' (e.trans a) x r hv
  | bad => exact h
def toS {α : Type} (r : R α) (k : α → Env → RS) : RS := match r with
  | .ok a δ => k a δ
  | .exc c fs dp δ => .exc c fs dp δ
  | .bad => .bad
theorem PostS.bindG {α : Type} {A : List Nat} {σ : L2.St} {ds : Env} {vs : List (Option V)} {Dd : Ends} {r : R α} {k : α → Env → RS} {okp : α → Env → Prop} (h : PostS X.K X.mg W A σ ds vs Dd (toS r k)) (q : ∀ a δ, PostS X.K X.mg W A σ ds vs Dd (k a δ) → okp a δ) : PostG X.K X.mg W σ ds vs okp r := by
  cases r with
  | ok a δ => exact q a δ h
  | exc c fs dp δ => exact fun cls dd vp H' x r hv => h σ cls dd vp H' (Agree.refl A σ) x r hv
  | bad => exact h

/-! ### blocks -/
def sSeq (m1 m2 : MS) : MS := fun δ => match m1 δ with
  | .nx δ1 => m2 δ1
  | r => r
theorem dss_nil : DSs X W [] [] (fun δ => .nx δ) := ⟨tNext, pss_nil, fun Dd σ H δ ds vs r p => p σ H (Agree.refl _ σ) r⟩
theorem dss_one {st : Stmt} {A : List Nat} {m : MS} (h : DS X W st A m) : DSs X W [st] A m := by
  obtain ⟨t, h1, h2⟩ := h
  exact ⟨t, pss_one h1, h2⟩
theorem dss_cons {st : Stmt} {sts : List Stmt} {A B : List Nat} {m1 m2 : MS} (h : DS X W st A m1) (h' : DSs X W sts B m2) : DSs X W (st :: sts) (A ++ B) (sSeq m1 m2) := by
  obtain ⟨t, h1, h2⟩ := h
  obtain ⟨u, g1, g2⟩ := h'
  refine ⟨tSeq t u, pss_cons h1 g1, fun Dd σ H δ ds vs r p => ?_⟩
  refine h2 { Dd with nx := u Dd } σ H δ ds vs r ?_
  unfold sSeq at p
  cases hm : m1 δ with
  | nx δ1 =>
    rw [hm] at p
    exact fun σ' H' a r' => g2 Dd σ' H' δ1 ds vs r' (p.later a)
  | rt d δ1 =>
    rw [hm] at p
    exact (show PostS X.K X.mg W (A ++ B) σ ds vs Dd (.rt d δ1) from p).mono (A := A) fun i hi => List.mem_append_left _ hi
  | bk δ1 =>
    rw [hm] at p
    exact (show PostS X.K X.mg W (A ++ B) σ ds vs Dd (.bk δ1) from p).mono (A := A) fun i hi => List.mem_append_left _ hi
  | ct δ1 =>
    rw [hm] at p
    exact (show PostS X.K X.mg W (A ++ B) σ ds vs Dd (.ct δ1) from p).mono (A := A) fun i hi => List.mem_append_left _ hi
  | exc c fs dp δ1 =>
    rw [hm] at p
    exact (show PostS X.K X.mg W (A ++ B) σ ds vs Dd (.exc c fs dp δ1) from p).mono (A := A) fun i hi => List.mem_append_left _ hi
  | bad =>
    rw [hm] at p
    exact p
theorem dss_weak {sts : List Stmt} {A B : List Nat} {m : MS} (h : DSs X W sts A m) (e : ∀ i ∈ A, i ∈ B) : DSs X W sts B m := by
  obtain ⟨t, h1, h2⟩ := h
  exact ⟨t, h1, fun Dd σ H δ ds vs r p => h2 Dd σ H δ ds vs r (p.mono e)⟩

/-! ### plain statements -/
theorem ds_pass {pos : Pos} : DS X W (.Pass pos) [] (fun δ => .nx δ) := ⟨tNext, ps_pass, fun Dd σ H δ ds vs r p => p σ H (Agree.refl _ σ) r⟩
theorem ds_break {pos : Pos} : DS X W (.Break pos) [] (fun δ => .bk δ) := ⟨tBreak, ps_break, fun Dd σ H δ ds vs r p => p σ H (Agree.refl _ σ) r⟩
theorem ds_cont {pos : Pos} : DS X W (.Continue pos) [] (fun δ => .ct δ) := ⟨tCont, ps_continue, fun Dd σ H δ ds vs r p => p σ H (Agree.refl _ σ) r⟩
theorem ds_doc {x : Str} {j : Nat} {p1 pos : Pos} : DS X W (.Expr (.Constant (.str x) j p1) pos) [] (fun δ => .nx δ) := ⟨tNext, ps_doc, fun Dd σ H δ ds vs r p => p σ H (Agree.refl _ σ) r⟩
def sDrop (m : M) : MS := fun δ => toS (m δ) fun _ δ1 => .nx δ1
theorem ds_expr {e : Expr} {m : M} {pos : Pos} (h : DE X W e m) (hs : swapsWith e none pos.line X.env = pure false := by rfl) : DS X W (.Expr e pos) [] (sDrop m) := by
  obtain ⟨t, h1, h2⟩ := h
  refine ⟨tDrop t, ps_expr h1 hs, fun Dd σ H δ ds vs r p => ?_⟩
  exact h2 σ H δ ds vs _ r (p.bindG fun d δ1 q => fun v H1 r1 => q σ H1 (Agree.refl _ σ) r1.tail)
def sRet (m : M) : MS := fun δ => toS (m δ) fun d δ1 => .rt d δ1
theorem ds_ret {e : Expr} {m : M} {pos : Pos} (h : DE X W e m) : DS X W (.Return (some e) pos) [] (sRet m) := by
  obtain ⟨t, h1, h2⟩ := h
  refine ⟨tRet t, ps_ret h1, fun Dd σ H δ ds vs r p => ?_⟩
  exact h2 σ H δ ds vs _ r (p.bindG fun d δ1 q => fun v H1 r1 => q σ v H1 (Agree.refl _ σ) r1)
theorem ds_retN {pos : Pos} : DS X W (.Return none pos) [] (fun δ => .rt .non δ) :=
  ⟨tRetN, ps_retN, fun Dd σ H δ ds vs r p => p σ .non H (Agree.refl _ σ) (r.push fun Hs => ⟨rfl, rfl⟩)⟩
def sSet (i : Nat) (m : M) : MS := fun δ => toS (m δ) fun d δ1 => if i < δ1.length then .nx (δ1.set i (some d)) else .bad
theorem set_post {A : List Nat} {i : Nat} {σ : L2.St} {ds : Env} {vs : List (Option V)} {Dd : Ends} {d : D} {v : V} {δ : Env} {H : Hp} (r : Rel X.K X.mg H δ σ (some d :: ds) (some v :: vs))
    (p : PostS X.K X.mg W [i] σ ds vs Dd (if i < δ.length then .nx (δ.set i (some d)) else .bad)) : Dd.nx (σ.set i (some v)) H := by
  by_cases hi : i < δ.length
  · rw [if_pos hi] at p
    exact p _ H Agree.set (r.assign hi)
  · rw [if_neg hi] at p
    exact p.elim
theorem ds_set {i : Nat} {x : Str} {e : Expr} {m : M} {pos pos' : Pos} (hN : X.N.Nodup) (hi : X.N[i]? = some x) (hx : Loc X.env.scope x) (h : DE X W e m) (hs : swapsWith e (some (.Name x pos')) pos.line X.env = pure false := by rfl)
    (hf : X.fn x = true ∨ X.env.scope.names.lookup x = some .local := by first | exact .inl rfl | exact .inr rfl | assumption) : DS X W (.Assign [.Name x pos'] e pos) [i] (sSet i m) := by
  obtain ⟨t, h1, h2⟩ := h
  refine ⟨tAsg t (gName i), ps_set hN hi hx h1 hs hf, fun Dd σ H δ ds vs r p => ?_⟩
  exact h2 σ H δ ds vs _ r (p.bindG fun d δ1 q => fun v H1 r1 => set_post (A := [i]) r1 q)
def sIf (mt : MB) (m1 m2 : MS) : MS := fun δ => toS (mt δ) fun b δ1 => if b = true then m1 δ1 else m2 δ1
theorem ds_if {c : Expr} {a b : List Stmt} {A B : List Nat} {mt : MB} {m1 m2 : MS} {pos : Pos} (hc : DT X W c mt) (ha : DSs X W a A m1) (hb : DSs X W b B m2) : DS X W (.If c a b pos) (A ++ B) (sIf mt m1 m2) := by
  obtain ⟨t, h1, h2⟩ := hc
  obtain ⟨ta, a1, a2⟩ := ha
  obtain ⟨tb, b1, b2⟩ := hb
  refine ⟨tIfS t ta tb, ps_if h1 a1 b1, fun Dd σ H δ ds vs r p => ?_⟩
  refine h2 σ H δ ds vs _ r (p.bindG fun b δ1 q => fun H1 r1 => ?_)
  cases b with
  | true =>
    rw [if_pos rfl]
    rw [if_pos rfl] at q
    exact a2 Dd σ H1 δ1 ds vs r1 (q.mono fun i hi => List.mem_append_left _ hi)
  | false =>
    rw [if_neg Bool.false_ne_true]
    rw [if_neg Bool.false_ne_true] at q
    exact b2 Dd σ H1 δ1 ds vs r1 (q.mono fun i hi => List.mem_append_right _ hi)

/-! ### targets -/
/-- a name, or names of a tuple's (a list's) parts -/
inductive Tg where
  | nm (i : Nat) | tp (l : List Nat)
def Tg.put : Tg → D → Env → Option Env
  | .nm i, d, δ => if i < δ.length then some (δ.set i (some d)) else none
  | .tp l, .con .tup es, δ => if l.length = es.length then puts l es δ else none
  | .tp _, _, _ => none
where puts : List Nat → List D → Env → Option Env
  | [], [], δ => some δ
  | i :: l, d :: es, δ => if i < δ.length then puts l es (δ.set i (some d)) else none
  | _, _, _ => none
def Tg.slots : Tg → List Nat
  | .nm i => [i]
  | .tp l => l
def gNames : List Nat → TGs
  | [] => gNil
  | i :: l => gCons (gName i) (gNames l)
variable (X) in
def DG (tg : Expr) : Tg → Prop
  | .nm i => PG X tg (gName i)
  | .tp l => PG X tg (gTup X.K l.length (gNames l))
def Tg.g (K : PySem.W.Frag) : Tg → TG
  | .nm i => gName i
  | .tp l => gTup K l.length (gNames l)
theorem DG.pg {tg : Expr} {g : Tg} (h : DG X tg g) : PG X tg (g.g X.K) := by
  cases g with
  | nm i => exact h
  | tp l => exact h
/-- a tuple in front is taken apart -/
theorem Rel.apart {K : PySem.W.Frag} {mg : Str → Option Value} {H : Hp} {δ ds : Env} {σ vs : List (Option V)} {es : List D} {v : V} (r : Rel K mg H δ σ (some (.con .tup es) :: ds) (some v :: vs)) :
    ∃ a us, v = .ref a ∧ SqT K H a us ∧ us.length = es.length ∧ Rel K mg H δ σ (es.map some ++ ds) (us.map some ++ vs) := by
  obtain ⟨Hs, F, G, s, h1, ⟨v', ws, F1, F2, e3, q1, q2, e4⟩, nd, no⟩ := r
  cases e3
  obtain ⟨a, us, G1, e1, e2, e5, e6⟩ := (show Vr K mg Hs H (.con .tup es) v F1 from q1)
  subst e1
  have e6' : F1 = G1 := e6
  subst e6'
  subst e4
  exact ⟨a, us, rfl, e2, vrs_len e5, Hs, F, F1 ++ F2, s, h1, vos_append (vos_of e5) q2, nd, no⟩
theorem puts_ok {K : PySem.W.Frag} {mg : Str → Option Value} {H : Hp} : ∀ {l : List Nat} {es : List D} {us : List V} {δ δ' ds : Env} {σ vs : List (Option V)} {Q : L2.St → Hp → Prop}, us.length = es.length → Rel K mg H δ σ (es.map some ++ ds) (us.map some ++ vs) → Tg.put.puts l es δ = some δ' →
    (∀ σ', Agree l σ σ' → Rel K mg H δ' σ' ds vs → Q σ' H) → gNames l us σ H Q
  | [], [], [], δ, δ', ds, σ, vs, Q, hl, r, e, q => by
    cases e
    exact ⟨rfl, q σ (Agree.refl _ σ) r⟩
  | i :: l, d :: es, u :: us, δ, δ', ds, σ, vs, Q, hl, r, e, q => by
    unfold Tg.put.puts at e
    split at e
    · rename_i hi
      refine ⟨u, us, rfl, ?_⟩
      refine puts_ok (by simpa using hl) (r.assign (ds := es.map some ++ ds) (vs := us.map some ++ vs) hi) e fun σ' a r' => q σ' (Agree.trans (A := [i]) Agree.set a) r'
    · cases e
theorem put_ok {K : PySem.W.Frag} {mg : Str → Option Value} {H : Hp} {g : Tg} {d : D} {v : V} {δ δ' ds : Env} {σ vs : List (Option V)} {Q : L2.St → Hp → Prop} (r : Rel K mg H δ σ (some d :: ds) (some v :: vs)) (e : g.put d δ = some δ')
    (q : ∀ σ', Agree g.slots σ σ' → Rel K mg H δ' σ' ds vs → Q σ' H) : g.g K v σ H Q := by
  cases g with
  | nm i =>
    have e' : (if i < δ.length then some (δ.set i (some d)) else none) = some δ' := e
    by_cases hi : i < δ.length
    · rw [if_pos hi] at e'
      cases e'
      exact q _ Agree.set (r.assign hi)
    · rw [if_neg hi] at e'
      cases e'
  | tp l =>
    cases d with
    | con k es =>
      cases k with
      | tup =>
        have e' : (if l.length = es.length then Tg.put.puts l es δ else none) = some δ' := e
        by_cases hi : l.length = es.length
        · rw [if_pos hi] at e'
          obtain ⟨a, us, e1, e2, e3, r'⟩ := r.apart
          exact ⟨a, us, e1, e2, by rw [e3, hi], puts_ok e3 r' e' q⟩
        · rw [if_neg hi] at e'
          cases e'
      | lst m => cases e
      | dic m ks => cases e
      | obj m c fs => cases e
      | hole => cases e
      | gone => cases e
    | non => cases e
    | bl b => cases e
    | int i => cases e
    | str x => cases e
def sPut (g : Tg) (m : M) : MS := fun δ => toS (m δ) fun d δ1 => match g.put d δ1 with
  | some δ2 => .nx δ2
  | none => .bad
theorem ds_put {tg e : Expr} {g : Tg} {m : M} {pos : Pos} (hg : DG X tg g) (h : DE X W e m) (hs : swapsWithSole [tg] e pos.line X.env = pure false := by rfl) (hw : swappedStores [tg] e X.env = pure none := by rfl)
    (h1 : (assignEach [tg] X.env).map (·.2) = [assign tg X.env] := by rfl) : DS X W (.Assign [tg] e pos) g.slots (sPut g m) := by
  obtain ⟨t, t1, t2⟩ := h
  refine ⟨tAsg t (g.g X.K), ps_asg t1 hg.pg hs hw h1, fun Dd σ H δ ds vs r p => ?_⟩
  refine t2 σ H δ ds vs _ r (p.bindG fun d δ1 q => fun v H1 r1 => ?_)
  cases hp : g.put d δ1 with
  | none =>
    rw [hp] at q
    exact q.elim
  | some δ2 =>
    rw [hp] at q
    exact put_ok r1 hp fun σ' a r' => q σ' H1 a r'

/-! ### loops over what stands still -/
def loop (g : Tg) (m : MS) : List D → Env → RS
  | [], δ => .nx δ
  | x :: xs, δ => match g.put x δ with
    | none => .bad
    | some δ1 => match m δ1 with
      | .nx δ2 => loop g m xs δ2
      | .ct δ2 => loop g m xs δ2
      | .bk δ2 => .nx δ2
      | r => r
/-- one turn; N, the next turn's start -/
theorem turn_ok {A : List Nat} {g : Tg} {m : MS} {u : TS} (hb : ∀ Dd σ H δ ds vs, Rel X.K X.mg H δ σ ds vs → PostS X.K X.mg W A σ ds vs Dd (m δ) → u Dd σ H) {Dd : Ends} {σ0 σ : L2.St} {x : D} {xs : List D} {v : V} {H : Hp} {δ ds : Env} {vs : List (Option V)} {N : L2.St → Hp → Prop}
    (ag : Agree (g.slots ++ A) σ0 σ) (r : Rel X.K X.mg H δ σ (some x :: ds) (some v :: vs)) (p : PostS X.K X.mg W (g.slots ++ A) σ0 ds vs Dd (loop g m (x :: xs) δ))
    (hn : ∀ σ' H' δ', Agree (g.slots ++ A) σ0 σ' → Rel X.K X.mg H' δ' σ' ds vs → PostS X.K X.mg W (g.slots ++ A) σ0 ds vs Dd (loop g m xs δ') → N σ' H') :
    g.g X.K v σ H fun σ2 H2 => u { Dd with nx := N, ct := N, bk := Dd.nx } σ2 H2 := by
  unfold loop at p
  cases hp : g.put x δ with
  | none =>
    rw [hp] at p
    exact p.elim
  | some δ1 =>
    rw [hp] at p
    dsimp only at p
    refine put_ok r hp fun σ1 a1 r1 => ?_
    have ag1 : Agree (g.slots ++ A) σ0 σ1 := ag.trans' (a1.mono fun i hi => List.mem_append_left _ hi)
    refine hb _ σ1 H δ1 ds vs r1 ?_
    have up : ∀ σ', Agree A σ1 σ' → Agree (g.slots ++ A) σ0 σ' := fun σ' a => ag1.trans' (a.mono fun i hi => List.mem_append_right _ hi)
    cases hm : m δ1 with
    | nx δ2 =>
      rw [hm] at p
      exact fun σ' H' a r' => hn σ' H' δ2 (up σ' a) r' p
    | ct δ2 =>
      rw [hm] at p
      exact fun σ' H' a r' => hn σ' H' δ2 (up σ' a) r' p
    | bk δ2 =>
      rw [hm] at p
      exact fun σ' H' a r' => p σ' H' (up σ' a) r'
    | rt d δ2 =>
      rw [hm] at p
      exact fun σ' v H' a r' => p σ' v H' (up σ' a) r'
    | exc c fs dp δ2 =>
      rw [hm] at p
      exact fun σ' cls dd vp H' a x r' hv => p σ' cls dd vp H' (up σ' a) x r' hv
    | bad =>
      rw [hm] at p
      exact p
end
end DN

/-! Dn5: what a for and a comprehension go over. -/
namespace DN
open PySem PySem.Spec PyProof.Rows L2

section
variable {K : PySem.W.Frag} {mg : Str → Option Value} {H H' : Hp} {δ ds : Env} {σ vs : List (Option V)}
/-- the front thing further back -/
theorem Rel.back {l : List (Option D)} {w : List (Option V)} {d : Option D} {v : Option V} (hl : w.length = l.length) (h : Rel K mg H δ σ (d :: (l ++ ds)) (v :: (w ++ vs))) : Rel K mg H δ σ (l ++ d :: ds) (w ++ v :: vs) := by
  obtain ⟨Hs, F, G, s, h1, ⟨v', us2, F1, F2, e3, q3, q4, e4⟩, nd, no⟩ := h
  cases e3
  obtain ⟨us, us', G1, G2, e, q1, q2, e2⟩ := vos_split q4
  have hl' : us.length = w.length := by rw [vos_len q1, hl]
  obtain ⟨rfl, rfl⟩ := List.append_inj e.symm hl'
  subst e2
  subst e4
  have pm : (F ++ (G1 ++ (F1 ++ G2))).Perm (F ++ (F1 ++ (G1 ++ G2))) := List.Perm.append_left F (by
    rw [← List.append_assoc, ← List.append_assoc]
    exact List.Perm.append_right G2 List.perm_append_comm)
  exact ⟨Hs, F, G1 ++ (F1 ++ G2), s, h1, vos_append q1 ⟨_, _, F1, G2, rfl, q3, q2, rfl⟩, pm.nodup_iff.mpr nd, fun a ha => no a (pm.mem_iff.mp ha)⟩
/-- what the front thing is -/
theorem Rel.look {d : D} {v : V} (h : Rel K mg H δ σ (some d :: ds) (some v :: vs)) : ∃ Hs F, Sub Hs H ∧ Vr K mg Hs H d v F := by
  obtain ⟨Hs, F, G, s, h1, ⟨v', us2, F1, F2, e3, q3, q4, e4⟩, nd, no⟩ := h
  cases e3
  exact ⟨Hs, F1, s, q3⟩
def RdK (K : PySem.W.Frag) (H : Hp) (a : Addr) (us : List V) : Kd → Prop
  | .tup => SqT K H a us
  | .lst _ => SqL K H a us
  | _ => True
theorem at_rd {Hs : Hp} {a : Addr} {us : List V} : ∀ {k : Kd}, Sub Hs H → At K mg Hs H a us k → RdK K H a us k
  | .tup, _, h => h
  | .lst .own, _, h => SqL.of h
  | .lst .sh, s, h => SqL.of (s _ _ h)
  | .lst .fz, s, h => sqL_sub s h
  | .dic _ _, _, _ => trivial
  | .obj _ _ _, _, _ => trivial
  | .hole, _, _ => trivial
  | .gone, _, _ => trivial
/-- a thing with parts in front -/
theorem Rel.parts {k : Kd} {es : List D} {v : V} (h : Rel K mg H δ σ (some (.con k es) :: ds) (some v :: vs)) (hp : (D.con k es).pure = true) :
    ∃ a us, v = .ref a ∧ us.length = es.length ∧ RdK K H a us k ∧ ∀ (i : Nat) d, es[i]? = some d → ∃ x, us[i]? = some x ∧ Rel K mg H δ σ (some d :: some (.con k es) :: ds) (some x :: some v :: vs) := by
  obtain ⟨Hs, F, G, s, h1, ⟨v', us2, F1, F2, e3, q3, q4, e4⟩, nd, no⟩ := h
  cases e3
  have q3' : Vr K mg Hs H (.con k es) v F1 := q3
  have z := vr_pure _ _ _ hp q3'
  obtain ⟨a, us, G1, e1, e2, e5, e6⟩ := q3'
  subst e1
  refine ⟨a, us, rfl, vrs_len e5, at_rd s e2, fun i d hd => ?_⟩
  obtain ⟨x, Gx, x1, x2, x3⟩ := vrs_get e5 hd
  have gx : Gx = [] := by
    cases Gx with
    | nil => rfl
    | cons b r =>
      have hb := x3 b List.mem_cons_self
      rw [z] at e6
      have : b ∈ k.foot a ++ G1 := List.mem_append_right _ hb
      rw [← e6] at this
      cases this
  subst gx
  exact ⟨x, x1, Hs, F, G, s, h1, ⟨_, _, [], G, rfl, x2, ⟨_, _, F1, F2, rfl, q3, q4, e4⟩, rfl⟩, nd, no⟩
end

/-! ### walks over data -/
/-- while ts stand in front the walk J gives xs -/
structure SeqW (K : PySem.W.Frag) (mg : Str → Option Value) (J : It) (xs : List D) (ts : Env) (us : List (Option V)) : Prop where
  goes : ∀ (i : Nat) H δ σ ds vs, i < xs.length → Rel K mg H δ σ (ts ++ ds) (us ++ vs) → J.go i H
  stops : ∀ H δ σ ds vs, Rel K mg H δ σ (ts ++ ds) (us ++ vs) → J.stop xs.length H
  gives : ∀ (i : Nat) H x H' δ σ ds vs d, xs[i]? = some d → Rel K mg H δ σ (ts ++ ds) (us ++ vs) → J.yld i H x H' → Rel K mg H' δ σ (some d :: (ts ++ ds)) (some x :: (us ++ vs))
section
variable {X : Cx} {W : WX}
def okI (K : PySem.W.Frag) (mg : Str → Option Value) (σ : L2.St) (ds : Env) (vs : List (Option V)) (R : It → Hp → Prop) (xs : List D) (δ : Env) : Prop :=
  ∀ J H' ts us, us.length = ts.length → Rel K mg H' δ σ (ts ++ ds) (us ++ vs) → SeqW K mg J xs ts us → R J H'
variable (X W) in
def DI (tg iter : Expr) (m : Env → R (List D)) : Prop := ∃ wi, PI X tg iter wi ∧ ∀ σ H δ ds vs R, Rel X.K X.mg H δ σ ds vs → PostG X.K X.mg W σ ds vs (okI X.K X.mg σ ds vs R) (m δ) → wi σ H R
/-- a list, a tuple or a text -/
def iSeq (K : PySem.W.Frag) (tl : TE) : TI := fun σ H R => tl σ H fun x H1 => (∃ a, x = .ref a ∧ (∃ xs, SqL K H1 a xs) ∧ R (Itl K a) H1) ∨ (∃ a, x = .ref a ∧ (∃ xs, SqT K H1 a xs) ∧ R (Itt K a) H1) ∨ ∃ z, x = .str z ∧ R (Its z) H1
theorem pi_seq {tg l : Expr} {tl : TE} (hl : PE X l tl) : PI X tg l (iSeq X.K tl) := by
  refine ⟨fun pins s σ H R I h => ?_⟩
  refine thn (hl.run pins s σ H _ I h) fun v s1 ⟨x, H1, I1, r1, q1⟩ => ?_
  rcases q1 with ⟨a, e, ⟨xs, hq⟩, q⟩ | ⟨a, e, ⟨xs, hq⟩, q⟩ | ⟨z, e, q⟩
  · subst e
    cases r1
    obtain ⟨its, rv, p, hz⟩ := I1.list hq
    refine wpAny_pyIter_list p.isList ?_
    refine ⟨s1.heap.objs.size, [s1.heap.objs.size], _, _, H1, rfl, I1.kept (t' := s1.toks) fun b o e => Heap.get?_push_of_some _ e, turn_list a _, ⟨_, Heap.get?_push_size _ rfl, rfl, rfl⟩, fun b hb => ?_, q⟩
    have e : b = s1.heap.objs.size := by simpa using hb
    subst e
    exact I1.fpOk (Nat.le_refl _) (I1.hok.fresh (Nat.le_refl _))
  · subst e
    cases r1
    obtain ⟨its, rv, p, hz⟩ := I1.tuple hq
    refine wpAny_pyIter_tuple (show s1.heap.IsTuple a its.toArray from p) ?_
    refine ⟨s1.heap.objs.size, [s1.heap.objs.size], _, _, H1, rfl, I1.kept (t' := s1.toks) fun b o e => Heap.get?_push_of_some _ e, turn_tuple a _, ⟨_, Heap.get?_push_size _ rfl, rfl, rfl⟩, fun b hb => ?_, q⟩
    have e : b = s1.heap.objs.size := by simpa using hb
    subst e
    exact I1.fpOk (Nat.le_refl _) (I1.hok.fresh (Nat.le_refl _))
  · subst e
    obtain ⟨t, rfl⟩ := r1
    cases ha : z.cps.all (· < 128)
    · exact wpAny_pyIter_wide ha (pi_one (tk := s1.toks) I1 _ (turn_str _ z t "str_iterator" (.inr rfl)) ⟨_, Heap.get?_push_size _ rfl, rfl, rfl⟩ q)
    · exact wpAny_pyIter_ascii ha (pi_one (tk := s1.toks) I1 _ (turn_str _ z t "str_ascii_iterator" (.inl rfl)) ⟨_, Heap.get?_push_size _ rfl, rfl, rfl⟩ q)
/-- the signs of a text -/
def signs (z : Str) : List D := z.cps.toList.map fun c => .str ⟨#[c]⟩
def items : D → Option (List D)
  | .con .tup es => some es
  | .con (.lst _) es => some es
  | .str z => some (signs z)
  | _ => none
def mSeq (m : M) : Env → R (List D) := fun δ => (m δ).bind fun d δ1 => match items d.frz with
  | some es => .ok es δ1
  | none => .bad
theorem di_seq {tg e : Expr} {m : M} (h : DE X W e m) : DI X W tg e (mSeq m) := by
  obtain ⟨t, h1, h2⟩ := h
  refine ⟨iSeq X.K t, pi_seq h1, fun σ H δ ds vs R r p => ?_⟩
  refine h2 σ H δ ds vs _ r (p.bind fun d δ1 hp => fun v H1 r1 => ?_)
  have r2 := r1.frzTop
  have hpure := frz_pure d
  generalize d.frz = e at r2 hpure hp
  cases e with
  | non => exact hp.elim
  | bl b => exact hp.elim
  | int i => exact hp.elim
  | str z =>
    have hv : v = .str z := by
      obtain ⟨Hs, F, s, q⟩ := r2.look
      exact q.1
    subst hv
    refine .inr (.inr ⟨z, rfl, ?_⟩)
    have hp' : okI X.K X.mg σ ds vs R (signs z) δ1 := hp
    refine hp' (Its z) H1 [] [] rfl r2.tail ⟨fun i H δ σ ds vs hi r => ?_, fun H δ σ ds vs r => ?_, fun i H x H' δ σ ds vs d hd r y => ?_⟩
    · show i < z.cps.size
      have : (signs z).length = z.cps.size := by simp [signs]
      omega
    · show z.cps.size ≤ (signs z).length
      simp [signs]
    · obtain ⟨rfl, c, hc, rfl⟩ := y
      have : d = .str ⟨#[c]⟩ := by
        unfold signs at hd
        rw [List.getElem?_map, Array.getElem?_toList, hc] at hd
        exact (Option.some.inj hd).symm
      subst this
      exact r.push fun Hs => ⟨rfl, rfl⟩
  | con k es =>
    obtain ⟨a, us, e1, e2, e3, e4⟩ := r2.parts hpure
    subst e1
    cases k with
    | tup =>
      have hp' : okI X.K X.mg σ ds vs R es δ1 := hp
      refine .inr (.inl ⟨a, rfl, ⟨us, e3⟩, ?_⟩)
      refine hp' (Itt X.K a) H1 [some (.con .tup es)] [some (.ref a)] rfl r2 ⟨fun i H δ σ ds vs hi r => ?_, fun H δ σ ds vs r => ?_, fun i H x H' δ σ ds vs d hd r y => ?_⟩
      · obtain ⟨a', us', f1, f2, f3, f4⟩ := Rel.parts r hpure
        cases f1
        obtain ⟨x, g1, _⟩ := f4 i es[i] (by simp [hi])
        exact ⟨us', x, f3, g1⟩
      · obtain ⟨a', us', f1, f2, f3, f4⟩ := Rel.parts r hpure
        cases f1
        exact ⟨us', f3, by omega⟩
      · obtain ⟨a', us', f1, f2, f3, f4⟩ := Rel.parts r hpure
        cases f1
        obtain ⟨x', g1, g2⟩ := f4 i d hd
        obtain ⟨rfl, g3⟩ := y
        rw [g3 us' f3] at g1
        cases g1
        exact g2
    | lst m =>
      have hp' : okI X.K X.mg σ ds vs R es δ1 := hp
      refine .inl ⟨a, rfl, ⟨us, e3⟩, ?_⟩
      refine hp' (Itl X.K a) H1 [some (.con (.lst m) es)] [some (.ref a)] rfl r2 ⟨fun i H δ σ ds vs hi r => ?_, fun H δ σ ds vs r => ?_, fun i H x H' δ σ ds vs d hd r y => ?_⟩
      · obtain ⟨a', us', f1, f2, f3, f4⟩ := Rel.parts r hpure
        cases f1
        obtain ⟨x, g1, _⟩ := f4 i es[i] (by simp [hi])
        exact ⟨us', x, f3, g1⟩
      · obtain ⟨a', us', f1, f2, f3, f4⟩ := Rel.parts r hpure
        cases f1
        exact ⟨us', f3, by omega⟩
      · obtain ⟨a', us', f1, f2, f3, f4⟩ := Rel.parts r hpure
        cases f1
        obtain ⟨x', g1, g2⟩ := f4 i d hd
        obtain ⟨rfl, g3⟩ := y
        rw [g3 us' f3] at g1
        cases g1
        exact g2
    | dic m ks => exact hp.elim
    | obj m c fs => exact hp.elim
    | hole => exact hp.elim
    | gone => exact hp.elim
/-- range(n), range(a, b) -/
def rangeD (lo : Int) (n : Nat) : List D := (List.range n).map fun (i : Nat) => D.int (lo + (i : Int))
def inR (i : Int) : Bool := decide (-(2 ^ 62) ≤ i) && decide (i < 2 ^ 62)
def int1 : List D → Option Int
  | [.int n] => some n
  | _ => none
def int2 : List D → Option (Int × Int)
  | [.int a, .int b] => some (a, b)
  | _ => none
def int3 : List D → Option (Int × Int × Int)
  | [.int a, .int b, .int c] => some (a, b, c)
  | _ => none
theorem int1_eq : ∀ {l : List D} {n : Int}, int1 l = some n → l = [.int n]
  | [.int n], _, rfl => rfl
theorem int2_eq : ∀ {l : List D} {n : Int × Int}, int2 l = some n → l = [.int n.1, .int n.2]
  | [.int a, .int b], _, rfl => rfl
theorem int3_eq : ∀ {l : List D} {n : Int × Int × Int}, int3 l = some n → l = [.int n.1, .int n.2.1, .int n.2.2]
  | [.int a, .int b, .int c], _, rfl => rfl
def mRng1 (m : Env → R (List D)) : Env → R (List D) := fun δ => (m δ).bind fun l δ1 => match int1 l with
  | some n => if inR n = true then .ok (rangeD 0 n.toNat) δ1 else .bad
  | none => .bad
def mRng2 (m : Env → R (List D)) : Env → R (List D) := fun δ => (m δ).bind fun l δ1 => match int2 l with
  | some (a, b) => if (inR a && inR b) = true then .ok (rangeD a (b - a).toNat) δ1 else .bad
  | none => .bad
theorem rng_ok {K : PySem.W.Frag} {mg : Str → Option Value} {lo : Int} {n : Nat} : SeqW K mg (Itr lo n) (rangeD lo n) [] [] := by
  have hl : (rangeD lo n).length = n := by simp [rangeD]
  refine ⟨fun i H δ σ ds vs hi r => ?_, fun H δ σ ds vs r => ?_, fun i H x H' δ σ ds vs d hd r y => ?_⟩
  · rw [hl] at hi
    exact hi
  · rw [hl]
    exact Nat.le_refl n
  · obtain ⟨rfl, rfl⟩ := y
    unfold rangeD at hd
    rw [List.getElem?_map] at hd
    cases hi : (List.range n)[i]? with
    | none =>
      rw [hi] at hd
      cases hd
    | some j =>
      rw [hi] at hd
      cases hd
      have : j = i := by
        rw [List.getElem?_range] at hi
        · cases hi
          rfl
        · by_cases h : i < n
          · exact h
          · rw [List.getElem?_eq_none (by simp; omega)] at hi
            cases hi
      subst this
      exact r.push fun Hs => ⟨rfl, rfl⟩
theorem ints_of {K : PySem.W.Frag} {mg : Str → Option Value} {H : Hp} {δ ds : Env} {σ vs : List (Option V)} {i : Int} {v : V} (r : Rel K mg H δ σ (some (.int i) :: ds) (some v :: vs)) : v = .int i := by
  obtain ⟨Hs, F, s, q⟩ := r.look
  exact q.1
theorem inR_of {i : Int} (h : inR i = true) : -(2 ^ 62) ≤ i ∧ i < 2 ^ 62 := by
  unfold inR at h
  rw [Bool.and_eq_true] at h
  exact ⟨of_decide_eq_true h.1, of_decide_eq_true h.2⟩
theorem Rel.scal {K : PySem.W.Frag} {mg : Str → Option Value} {H : Hp} {δ ds : Env} {σ vs : List (Option V)} : ∀ {l : List D} {ws : List V}, ws.length = l.length → l.all isSc = true → Rel K mg H δ σ (l.map some ++ ds) (ws.map some ++ vs) → ws = l.map sc ∧ Rel K mg H δ σ ds vs
  | [], [], _, _, r => ⟨rfl, r⟩
  | d :: l, w :: ws, hl, h, r => by
    rw [List.all_cons, Bool.and_eq_true] at h
    obtain ⟨Hs, F, s, q⟩ := Rel.look (ds := l.map some ++ ds) (vs := ws.map some ++ vs) r
    have e : w = sc d := by
      cases d with
      | con k es => cases h.1
      | non => exact q.1
      | bl b => exact q.1
      | int i => exact q.1
      | str x => exact q.1
    obtain ⟨e2, r2⟩ := Rel.scal (l := l) (ws := ws) (by simpa using hl) h.2 (Rel.tail (ds := l.map some ++ ds) (vs := ws.map some ++ vs) r)
    exact ⟨by rw [e, e2]; rfl, r2⟩
theorem di_range1 {tg a : Expr} {p pos : Pos} {m : Env → R (List D)} (hg : Gl X "range") (hm : X.mg "range" = none) (ha : DA X W [a] m) (hs : starEach [a] X.env = [(false, eval a X.env)] := by rfl) : DI X W tg (.Call (.Name "range" p) [a] [] pos) (mRng1 m) := by
  obtain ⟨t, h1, h2⟩ := ha
  refine ⟨_, pi_range1 hg hm h1 hs, fun σ H δ ds vs R r q => ?_⟩
  refine h2 σ H δ ds vs _ r (q.bind fun l δ1 hp => fun ws H1 r1 hl => ?_)
  cases hi : int1 l with
  | none =>
    rw [hi] at hp
    exact hp.elim
  | some n =>
    rw [hi] at hp
    dsimp only at hp
    have el := int1_eq hi
    subst el
    by_cases hn : inR n = true
    · rw [if_pos hn] at hp
      obtain ⟨ew, r2⟩ := Rel.scal hl rfl r1
      have hp' : okI X.K X.mg σ ds vs R (rangeD 0 n.toNat) δ1 := hp
      exact ⟨n, ew, (inR_of hn).1, (inR_of hn).2, hp' _ H1 [] [] rfl r2 rng_ok⟩
    · rw [if_neg hn] at hp
      exact hp.elim
theorem di_range2 {tg a b : Expr} {p pos : Pos} {m : Env → R (List D)} (hg : Gl X "range") (hm : X.mg "range" = none) (ha : DA X W [a, b] m) (hs : starEach [a, b] X.env = [(false, eval a X.env), (false, eval b X.env)] := by rfl) (hs2 : starEach [b] X.env = [(false, eval b X.env)] := by rfl) : DI X W tg (.Call (.Name "range" p) [a, b] [] pos) (mRng2 m) := by
  obtain ⟨t, h1, h2⟩ := ha
  refine ⟨_, pi_range2 hg hm h1 hs hs2, fun σ H δ ds vs R r q => ?_⟩
  refine h2 σ H δ ds vs _ r (q.bind fun l δ1 hp => fun ws H1 r1 hl => ?_)
  cases hi : int2 l with
  | none =>
    rw [hi] at hp
    exact hp.elim
  | some n =>
    obtain ⟨lo, hi'⟩ := n
    rw [hi] at hp
    dsimp only at hp
    have el := int2_eq hi
    subst el
    by_cases hn : (inR lo && inR hi') = true
    · rw [if_pos hn] at hp
      obtain ⟨ew, r2⟩ := Rel.scal hl rfl r1
      rw [Bool.and_eq_true] at hn
      have hp' : okI X.K X.mg σ ds vs R (rangeD lo (hi' - lo).toNat) δ1 := hp
      exact ⟨lo, hi', ew, ⟨(inR_of hn.1).1, (inR_of hn.1).2, (inR_of hn.2).1, (inR_of hn.2).2⟩, hp' _ H1 [] [] rfl r2 rng_ok⟩
    · rw [if_neg hn] at hp
      exact hp.elim

/-! ### for -/
theorem PostS.more {A : List Nat} {σ : L2.St} {ds l : Env} {vs w : List (Option V)} {Dd : Ends} {r : RS} (hl : w.length = l.length) (h : PostS X.K X.mg W A σ ds vs Dd r) : PostS X.K X.mg W A σ (l ++ ds) (w ++ vs) Dd r := by
  cases r with
  | nx δ => exact fun σ' H' a r => h σ' H' a (Rel.drop hl r)
  | rt d δ => exact fun σ' v H' a r => h σ' v H' a (Rel.dropMid (l := [some d]) (w := [some v]) rfl hl r)
  | bk δ => exact fun σ' H' a r => h σ' H' a (Rel.drop hl r)
  | ct δ => exact fun σ' H' a r => h σ' H' a (Rel.drop hl r)
  | exc c fs dp δ => exact fun σ' cls dd vp H' a x r hv => h σ' cls dd vp H' a x (Rel.dropMid (by rw [List.length_map, List.length_map, hv]) hl r) hv
  | bad => exact h
theorem Agree.symm {A : List Nat} {σ σ' : L2.St} (h : Agree A σ σ') : Agree A σ' σ := fun i hi => (h i hi).symm
theorem PostS.rebase {A : List Nat} {σ σ' : L2.St} {ds : Env} {vs : List (Option V)} {Dd : Ends} {r : RS} (h : PostS X.K X.mg W A σ ds vs Dd r) (ag : Agree A σ σ') : PostS X.K X.mg W A σ' ds vs Dd r := by
  cases r with
  | nx δ => exact fun σ2 H' a r => h σ2 H' (ag.trans' a) r
  | rt d δ => exact fun σ2 v H' a r => h σ2 v H' (ag.trans' a) r
  | bk δ => exact fun σ2 H' a r => h σ2 H' (ag.trans' a) r
  | ct δ => exact fun σ2 H' a r => h σ2 H' (ag.trans' a) r
  | exc c fs dp δ => exact fun σ2 cls dd vp H' a x r hv => h σ2 cls dd vp H' (ag.trans' a) x r hv
  | bad => exact h
def sFor (g : Tg) (mi : Env → R (List D)) (m : MS) : MS := fun δ => toS (mi δ) fun xs δ1 => loop g m xs δ1
theorem ds_for {tg iter : Expr} {body : List Stmt} {g : Tg} {A : List Nat} {mi : Env → R (List D)} {m : MS} {pos : Pos} (hp : PassesOwn (model X.prog X.w) X.A X.env X.xe) (hc : X.calm = true) (hi : DI X W tg iter mi) (hg : DG X tg g) (hb : DSs X W body A m)
    (hs : ∀ x, foldedSetIterable iter X.env x = pure x := by intro _; rfl) : DS X W (.For tg iter body [] pos) (g.slots ++ A) (sFor g mi m) := by
  obtain ⟨wi, i1, i2⟩ := hi
  obtain ⟨u, b1, b2⟩ := hb
  refine ⟨tFor wi (g.g X.K) u, ps_for hp hc i1 hg.pg b1 hs, fun Dd σ H δ ds vs r p => ?_⟩
  refine i2 σ H δ ds vs _ r (p.bindG fun xs δ1 q => ?_)
  intro J H1 ts us hl r1 sw
  refine ⟨fun i mm σ' H' => i + mm = xs.length ∧ ∃ δ', Agree (g.slots ++ A) σ σ' ∧ Rel X.K X.mg H' δ' σ' (ts ++ ds) (us ++ vs) ∧ PostS X.K X.mg W (g.slots ++ A) σ (ts ++ ds) (us ++ vs) Dd (loop g m (xs.drop i) δ'), ⟨xs.length, Nat.zero_add _, δ1, Agree.refl _ σ, r1, by rw [List.drop_zero]; exact PostS.more hl q⟩, ?_⟩
  rintro i mm σ' H' ⟨em, δ', ag, r', pp⟩
  by_cases hlt : i < xs.length
  · refine .inr ⟨sw.goes i H' δ' σ' ds vs hlt r', fun σ2 H2 => ∃ δ2, Agree (g.slots ++ A) σ σ2 ∧ Rel X.K X.mg H2 δ2 σ2 (ts ++ ds) (us ++ vs) ∧ PostS X.K X.mg W (g.slots ++ A) σ (ts ++ ds) (us ++ vs) Dd (loop g m (xs.drop (i + 1)) δ2), fun σ2 H2 n => ⟨mm - 1, by omega, by omega, n⟩, fun x H2 y => ?_⟩
    have hx : xs[i]? = some xs[i] := by simp [hlt]
    have r2 := sw.gives i H' x H2 δ' σ' ds vs xs[i] hx r' y
    have pd : PostS X.K X.mg W (g.slots ++ A) σ (ts ++ ds) (us ++ vs) Dd (loop g m (xs[i] :: xs.drop (i + 1)) δ') := by
      rw [← List.drop_eq_getElem_cons hlt]
      exact pp
    exact turn_ok b2 ag r2 pd fun σ3 H3 δ3 a3 r3 p3 => ⟨δ3, a3, r3, p3⟩
  · have e : xs.length ≤ i := by omega
    rw [List.drop_eq_nil_of_le e] at pp
    have ei : i = xs.length := by omega
    subst ei
    exact .inl ⟨sw.stops H' δ' σ' ds vs r', pp σ' H' ag r'⟩
/-! ### while, with a number of turns that is enough -/
def wloop (mt : MB) (m : MS) : Nat → Env → RS
  | 0, _ => .bad
  | n + 1, δ => toS (mt δ) fun b δ1 => if b = true then (match m δ1 with
      | .nx δ2 => wloop mt m n δ2
      | .ct δ2 => wloop mt m n δ2
      | .bk δ2 => .nx δ2
      | r => r) else .nx δ1
def sWhile (n : Nat) (mt : MB) (m : MS) : MS := wloop mt m n
theorem ds_while {c : Expr} {body : List Stmt} {A : List Nat} {mt : MB} {m : MS} {n : Nat} {pos : Pos} (hp : PassesOwn (model X.prog X.w) X.A X.env X.xe) (hc : DT X W c mt) (hb : DSs X W body A m) : DS X W (.While c body [] pos) A (sWhile n mt m) := by
  obtain ⟨t, t1, t2⟩ := hc
  obtain ⟨u, b1, b2⟩ := hb
  refine ⟨tWhile t u, ps_while hp t1 b1, fun Dd σ H δ ds vs r p => ?_⟩
  refine ⟨fun mm σ' H' => ∃ δ', Agree A σ σ' ∧ Rel X.K X.mg H' δ' σ' ds vs ∧ PostS X.K X.mg W A σ ds vs Dd (wloop mt m mm δ'), ⟨n, δ, Agree.refl _ σ, r, p⟩, ?_⟩
  rintro mm σ' H' ⟨δ', ag, r', pp⟩
  cases mm with
  | zero => exact pp.elim
  | succ k =>
    have p2 : PostS X.K X.mg W A σ' ds vs Dd (wloop mt m (k + 1) δ') := pp.rebase ag
    unfold wloop at p2
    refine t2 σ' H' δ' ds vs _ r' (p2.bindG fun b δ1 q => fun H1 r1 => ?_)
    cases b with
    | true =>
      rw [if_pos rfl]
      rw [if_pos rfl] at q
      refine ⟨fun σ2 H2 => ∃ δ2, Agree A σ σ2 ∧ Rel X.K X.mg H2 δ2 σ2 ds vs ∧ PostS X.K X.mg W A σ ds vs Dd (wloop mt m k δ2), fun σ2 H2 nn => ⟨k, Nat.lt_succ_self k, nn⟩, ?_⟩
      refine b2 _ σ' H1 δ1 ds vs r1 ?_
      cases hm : m δ1 with
      | nx δ2 =>
        rw [hm] at q
        exact fun σ2 H2 a r2 => ⟨δ2, ag.trans' a, r2, PostS.rebase q ag.symm⟩
      | ct δ2 =>
        rw [hm] at q
        exact fun σ2 H2 a r2 => ⟨δ2, ag.trans' a, r2, PostS.rebase q ag.symm⟩
      | bk δ2 =>
        rw [hm] at q
        exact fun σ2 H2 a r2 => q σ2 H2 a r2
      | rt d δ2 =>
        rw [hm] at q
        exact fun σ2 v H2 a r2 => q σ2 v H2 a r2
      | exc c fs dp δ2 =>
        rw [hm] at q
        exact fun σ2 cls dd vp H2 a x r2 hv => q σ2 cls dd vp H2 a x r2 hv
      | bad =>
        rw [hm] at q
        exact q
    | false =>
      rw [if_neg Bool.false_ne_true]
      rw [if_neg Bool.false_ne_true] at q
      exact q σ' H1 (Agree.refl _ _) r1
end
/-! ### an object of its own is opened, and closed with other parts -/
section
variable {K : PySem.W.Frag} {mg : Str → Option Value} {H : Hp} {δ ds : Env} {σ vs : List (Option V)}
abbrev D.hole : D := .con .hole []
theorem Rel.opened {k : Kd} {es : List D} {v : V} (h : Rel K mg H δ σ (some (.con k es) :: ds) (some v :: vs)) (hk : k.isOwn = true) :
    ∃ p us Hs, v = .ref p ∧ us.length = es.length ∧ At K mg Hs H p us k ∧ Rel K mg H δ σ (some D.hole :: (es.map some ++ ds)) (some (.ref p) :: (us.map some ++ vs)) := by
  obtain ⟨Hs, F, G, s, h1, ⟨v', us2, F1, F2, e3, q3, q4, e4⟩, nd, no⟩ := h
  cases e3
  obtain ⟨a, us, G1, e1, e2, e5, e6⟩ := (show Vr K mg Hs H (.con k es) v F1 from q3)
  subst e1
  rw [foot_own hk] at e6
  subst e6
  subst e4
  obtain ⟨o, o1, o2⟩ := at_foot e2 a (by rw [foot_own hk]; exact List.mem_singleton.mpr rfl)
  refine ⟨a, us, Hs, rfl, vrs_len e5, e2, Hs, F, [a] ++ (G1 ++ F2), s, h1, ⟨_, _, [a], G1 ++ F2, rfl, ⟨a, [], [], rfl, ⟨o, o1, o2⟩, ⟨rfl, rfl⟩, rfl⟩, vos_append (vos_of e5) q4, rfl⟩, ?_, ?_⟩
  · have e : [a] ++ G1 ++ F2 = [a] ++ (G1 ++ F2) := List.append_assoc _ _ _
    rw [e] at nd
    exact nd
  · have e : [a] ++ G1 ++ F2 = [a] ++ (G1 ++ F2) := List.append_assoc _ _ _
    rw [e] at no
    exact no
theorem Rel.closed {es : List D} {us : List V} {p : Addr} {k : Kd} {o : HO} (h : Rel K mg H δ σ (some D.hole :: (es.map some ++ ds)) (some (.ref p) :: (us.map some ++ vs))) (hl : us.length = es.length) (hk : k.isOwn = true)
    (ha : ∀ Hs, At K mg Hs (upd H p o) p us k) : Rel K mg (upd H p o) δ σ (some (.con k es) :: ds) (some (.ref p) :: vs) := by
  obtain ⟨Hs, F, G, s, h1, ⟨v', us2, F1, F2, e3, q3, q4, e4⟩, nd, no⟩ := h
  cases e3
  obtain ⟨a, ws, G1, e1, ⟨o1, oa, os⟩, e5, e6⟩ := (show Vr K mg Hs H (.con .hole []) (.ref p) F1 from q3)
  cases e1
  have eG : G1 = [] := e5.2
  subst eG
  have e6' : F1 = [p] := e6
  subst e6'
  subst e4
  have pH : p ∉ F ++ F2 := fun hm => by
    rcases List.mem_append.mp hm with q | q
    · exact (List.nodup_append.mp nd).2.2 p q p (List.mem_append_left _ (List.mem_singleton.mpr rfl)) rfl
    · exact (List.nodup_append.mp (List.nodup_append.mp nd).2.1).2.2 p (List.mem_singleton.mpr rfl) p q rfl
  have hsp : Hs p = none := no p (List.mem_append_right _ (List.mem_append_left _ (List.mem_singleton.mpr rfl)))
  have ht : ∀ a u, H a = some u → still u → upd H p o a = some u := fun a u q st => by
    rw [upd_ne (fun e => by subst e; rw [oa] at q; cases q; exact os st)]
    exact q
  have hf : ∀ b, b ∈ F ++ F2 → ∀ u, H b = some u → upd H p o b = some u := fun b hb u q => by
    rw [upd_ne (fun e => by subst e; exact pH hb)]
    exact q
  have hss : Sub Hs (upd H p o) := fun a u q => by
    rw [upd_ne (fun e => by subst e; rw [hsp] at q; cases q)]
    exact s a u q
  have g1 := vos_mono (K := K) (mg := mg) (Hs := Hs) (fun _ _ q => q) ht (fun b hb => hf b (List.mem_append_left _ hb)) h1
  have g2 := vos_mono (K := K) (mg := mg) (Hs := Hs) (fun _ _ q => q) ht (fun b hb => hf b (List.mem_append_right _ hb)) q4
  obtain ⟨ws, ws', P1, P2, e, q1, q2, e2⟩ := vos_split g2
  have hl' : ws.length = (us.map some).length := by rw [vos_len q1, List.length_map, List.length_map, hl]
  obtain ⟨rfl, rfl⟩ := List.append_inj e.symm hl'
  obtain ⟨us', e7, q5⟩ := vos_somes q1
  have e8 : us = us' := (List.map_inj_right (fun _ _ q => Option.some.inj q)).mp e7
  subst e8
  subst e2
  refine ⟨Hs, F, [p] ++ P1 ++ P2, hss, g1, ⟨_, _, [p] ++ P1, P2, rfl, ⟨p, us, P1, rfl, ha Hs, q5, by rw [foot_own hk]⟩, q2, rfl⟩, ?_, ?_⟩
  · rw [List.append_assoc]
    exact nd
  · rw [List.append_assoc]
    exact no
/-- a thing more in a list of its own -/
theorem Rel.app {es : List D} {d : D} {v w : V} (h : Rel K mg H δ σ (some (.lst .own es) :: some d :: ds) (some v :: some w :: vs)) :
    ∃ p us, v = .ref p ∧ us.length = es.length ∧ H p = some (.lst us) ∧ Rel K mg (upd H p (.lst (us ++ [w]))) δ σ (some (.lst .own (es ++ [d])) :: ds) (some (.ref p) :: vs) := by
  obtain ⟨p, us, Hs, e1, e2, e3, r⟩ := h.opened rfl
  refine ⟨p, us, e1, e2, e3, Rel.closed ?_ (by rw [List.length_append, List.length_append, e2]; rfl) rfl fun Hs => upd_same⟩
  rw [List.map_append, List.map_append, List.append_assoc, List.append_assoc]
  exact r
end

/-! ### comprehensions -/
def wipeD : Env → List Nat → Env
  | δ, [] => δ
  | δ, v :: vs => (wipeD δ vs).set v none
def savesD : Env → List Nat → Env
  | _, [] => []
  | δ, v :: vs => ((wipeD δ vs)[v]?).join :: savesD δ vs
def savesV : L2.St → List Nat → List (Option V)
  | _, [] => []
  | σ, v :: vs => ((wipe σ vs)[v]?).join :: savesV σ vs
def restore : List Nat → Env → Env → Env
  | v :: vs, d :: ds, δ => restore vs ds (δ.set v d)
  | _, _, δ => δ
theorem wipeD_len (δ : Env) : ∀ vs : List Nat, (wipeD δ vs).length = δ.length
  | [] => rfl
  | v :: vs => by
    unfold wipeD
    rw [List.length_set, wipeD_len δ vs]
theorem savesD_len (δ : Env) : ∀ vs : List Nat, (savesD δ vs).length = vs.length
  | [] => rfl
  | v :: vs => by
    unfold savesD
    rw [List.length_cons, List.length_cons, savesD_len δ vs]
theorem savesV_len (σ : L2.St) : ∀ vs : List Nat, (savesV σ vs).length = vs.length
  | [] => rfl
  | v :: vs => by
    unfold savesV
    rw [List.length_cons, List.length_cons, savesV_len σ vs]
theorem wipe_get (σ : L2.St) (i : Nat) : ∀ vs : List Nat, (wipe σ vs)[i]? = if i ∈ vs then (if i < σ.length then some none else none) else σ[i]?
  | [] => by
    rw [if_neg (by simp)]
    rfl
  | v :: vs => by
    unfold wipe
    rw [List.getElem?_set, wipe_length, wipe_get σ i vs]
    by_cases h : v = i
    · subst h
      rw [if_pos rfl, if_pos List.mem_cons_self]
    · rw [if_neg h]
      by_cases h2 : i ∈ vs
      · rw [if_pos h2, if_pos (List.mem_cons_of_mem _ h2)]
      · rw [if_neg h2, if_neg (fun q => by
          rcases List.mem_cons.mp q with q | q
          · exact h q.symm
          · exact h2 q)]
theorem wipe_agree {σ σ2 : L2.St} {vs A : List Nat} (hA : ∀ i ∈ A, i ∈ vs) (h : Agree A (wipe σ vs) σ2) (hl : σ2.length = σ.length) : wipe σ2 vs = wipe σ vs := by
  apply List.ext_getElem?
  intro i
  rw [wipe_get, wipe_get]
  by_cases hi : i ∈ vs
  · rw [if_pos hi, if_pos hi, hl]
  · rw [if_neg hi, if_neg hi]
    have q := h i fun z => hi (hA i z)
    rw [wipe_get, if_neg hi] at q
    exact q
section
variable {K : PySem.W.Frag} {mg : Str → Option Value} {H : Hp} {δ ds : Env} {σ vs : List (Option V)}
theorem Rel.swap {l m : List (Option D)} {w u : List (Option V)} (hl : w.length = l.length) (hm : u.length = m.length) (h : Rel K mg H δ σ (l ++ (m ++ ds)) (w ++ (u ++ vs))) : Rel K mg H δ σ (m ++ (l ++ ds)) (u ++ (w ++ vs)) := by
  obtain ⟨Hs, F, G, s, h1, h2, nd, no⟩ := h
  obtain ⟨us, us', G1, G2, e, q1, q2, e2⟩ := vos_split h2
  have hl' : us.length = w.length := by rw [vos_len q1, hl]
  obtain ⟨rfl, rfl⟩ := List.append_inj e.symm hl'
  obtain ⟨ws, ws', G3, G4, e3, q3, q4, e4⟩ := vos_split q2
  have hm' : ws.length = u.length := by rw [vos_len q3, hm]
  obtain ⟨rfl, rfl⟩ := List.append_inj e3.symm hm'
  subst e2
  subst e4
  have pm : (F ++ (G3 ++ (G1 ++ G4))).Perm (F ++ (G1 ++ (G3 ++ G4))) := List.Perm.append_left F (by
    rw [← List.append_assoc, ← List.append_assoc]
    exact List.Perm.append_right G4 List.perm_append_comm)
  exact ⟨Hs, F, G3 ++ (G1 ++ G4), s, h1, vos_append q3 (vos_append q1 q4), pm.nodup_iff.mpr nd, fun a ha => no a (pm.mem_iff.mp ha)⟩
theorem Rel.wipe1 {i : Nat} (h : Rel K mg H δ σ ds vs) (hi : i < δ.length) : Rel K mg H (δ.set i none) (σ.set i none) ((δ[i]?).join :: ds) ((σ[i]?).join :: vs) := by
  obtain ⟨Hs, F, G, s, h1, h2, nd, no⟩ := h
  obtain ⟨v, Fi, Fr, e1, q1, pm, q2⟩ := vos_at h1 (List.getElem?_eq_getElem hi)
  obtain ⟨F', r1, r2⟩ := q2 Hs H none none [] (fun _ _ q => q) (fun _ _ q _ => q) (fun _ _ _ q => q) rfl
  have pmA : (F' ++ (Fi ++ G)).Perm (F ++ G) := by
    refine (List.Perm.append_right _ r2).trans ?_
    show (Fr ++ (Fi ++ G)).Perm (F ++ G)
    rw [← List.append_assoc]
    exact List.Perm.append_right G (List.perm_append_comm.trans pm.symm)
  have ed : (δ[i]?).join = δ[i] := by
    rw [List.getElem?_eq_getElem hi]
    rfl
  have ev : (σ[i]?).join = v := by
    rw [e1]
    rfl
  exact ⟨Hs, F', Fi ++ G, s, r1, ⟨v, vs, Fi, G, by rw [ev], by rw [ed]; exact q1, h2, rfl⟩, pmA.nodup_iff.mpr nd, fun a ha => no a (pmA.mem_iff.mp ha)⟩
theorem Rel.wipes : ∀ {is : List Nat}, Rel K mg H δ σ ds vs → (∀ i ∈ is, i < δ.length) → Rel K mg H (wipeD δ is) (wipe σ is) (savesD δ is ++ ds) (savesV σ is ++ vs)
  | [], h, _ => h
  | i :: is, h, hi => by
    have r := Rel.wipes (is := is) h fun j hj => hi j (List.mem_cons_of_mem _ hj)
    exact Rel.wipe1 r (by rw [wipeD_len]; exact hi i List.mem_cons_self)
theorem Rel.forget {is : List Nat} (h : Rel K mg H δ σ ds vs) (hi : ∀ i ∈ is, i < δ.length) : Rel K mg H (wipeD δ is) (wipe σ is) ds vs :=
  Rel.drop (by rw [savesD_len, savesV_len]) (Rel.wipes h hi)
theorem Rel.restored {σ0 : L2.St} : ∀ {is : List Nat} {δ : Env} {es : Env}, Rel K mg H δ (wipe σ0 is) (es ++ ds) (savesV σ0 is ++ vs) → es.length = is.length → (∀ i ∈ is, i < δ.length) → Rel K mg H (restore is es δ) σ0 ds vs
  | [], δ, es, h, he, _ => by
    have e0 : es = [] := List.eq_nil_of_length_eq_zero he
    subst e0
    exact h
  | i :: is, δ, [], h, he, _ => by cases he
  | i :: is, δ, e :: es, h, he, hi => by
    have h' : Rel K mg H δ ((wipe σ0 is).set i none) (e :: (es ++ ds)) (((wipe σ0 is)[i]?).join :: (savesV σ0 is ++ vs)) := h
    have r := h'.assign (hi i List.mem_cons_self)
    have hlen : i < (wipe σ0 is).length := by
      have := h'.len
      rw [List.length_set] at this
      rw [this]
      exact hi i List.mem_cons_self
    have e1 : ((wipe σ0 is).set i none).set i (((wipe σ0 is)[i]?).join) = wipe σ0 is := by
      rw [List.set_set]
      apply set_same
      rw [List.getElem?_eq_getElem hlen]
      rfl
    rw [e1] at r
    exact Rel.restored (is := is) r (by simpa using he) fun j hj => by
      rw [List.length_set]
      exact hi j (List.mem_cons_of_mem _ hj)
end
theorem puts_len : ∀ {l : List Nat} {es : List D} {δ δ' : Env}, Tg.put.puts l es δ = some δ' → δ'.length = δ.length
  | [], [], _, _, e => by
    cases e
    rfl
  | i :: l, d :: es, δ, δ', e => by
    unfold Tg.put.puts at e
    split at e
    · rw [puts_len e, List.length_set]
    · cases e
theorem put_len {g : Tg} {d : D} {δ δ' : Env} (e : g.put d δ = some δ') : δ'.length = δ.length := by
  cases g with
  | nm i =>
    have e' : (if i < δ.length then some (δ.set i (some d)) else none) = some δ' := e
    split at e'
    · cases e'
      rw [List.length_set]
    · cases e'
  | tp l =>
    cases d with
    | con k es =>
      cases k with
      | tup =>
        have e' : (if l.length = es.length then Tg.put.puts l es δ else none) = some δ' := e
        split at e'
        · exact puts_len e'
        · cases e'
      | lst m => cases e
      | dic m ks => cases e
      | obj m c fs => cases e
      | hole => cases e
      | gone => cases e
    | non => cases e
    | bl b => cases e
    | int i => cases e
    | str x => cases e
def loopC (g : Tg) (is : List Nat) (mt : MB) (m : M) : List D → Env → List D → R (List D)
  | [], δ, acc => .ok acc δ
  | x :: xs, δ, acc => match g.put x δ with
    | none => .bad
    | some δ1 => match mt δ1 with
      | .ok true δ2 => (match m δ2 with
        | .ok d δ3 => if acc.length < sizeLine ∧ δ3.length = δ.length then loopC g is mt m xs (wipeD δ3 is) (acc ++ [d]) else .bad
        | _ => .bad)
      | .ok false δ2 => if δ2.length = δ.length then loopC g is mt m xs (wipeD δ2 is) acc else .bad
      | _ => .bad
def mLc (g : Tg) (is : List Nat) (mi : Env → R (List D)) (mt : MB) (m : M) : M := fun δ => (mi δ).bind fun xs δ1 =>
  if is.all (fun i => decide (i < δ1.length)) = true then (loopC g is mt m xs (wipeD δ1 is) []).bind fun acc δ2 => .ok (.lst .own acc) (restore is (savesD δ1 is) δ2) else .bad
def mYes : MB := fun δ => .ok true δ
abbrev W0 : WX := fun _ _ _ _ => False
section
variable {X : Cx} {W : WX}
def TM (K : PySem.W.Frag) (mg : Str → Option Value) (W : WX) (m : M) : TE := fun σ H Q => ∃ δ ds vs, Rel K mg H δ σ ds vs ∧ PostG K mg W σ ds vs (okE K mg σ ds vs Q) (m δ)
def TMB (K : PySem.W.Frag) (mg : Str → Option Value) (W : WX) (m : MB) : TT := fun σ H Q => ∃ δ ds vs, Rel K mg H δ σ ds vs ∧ PostG K mg W σ ds vs (okB K mg σ ds vs Q) (m δ)
theorem DE.canon {e : Expr} {m : M} (h : DE X W e m) : PE X e (TM X.K X.mg W m) := by
  obtain ⟨t, h1, h2⟩ := h
  exact ⟨fun pins s σ H Q I ⟨δ, ds, vs, r, p⟩ => h1.run pins s σ H Q I (h2 σ H δ ds vs Q r p)⟩
theorem DT.canon {e : Expr} {m : MB} (h : DT X W e m) : PT X e (TMB X.K X.mg W m) := by
  obtain ⟨t, h1, h2⟩ := h
  exact ⟨fun pins s σ H Q I ⟨δ, ds, vs, r, p⟩ => h1.run pins s σ H Q I (h2 σ H δ ds vs Q r p)⟩
variable (X W) in
/-- the tests of a comprehension: none or one -/
def DTs (ifs : List Expr) (m : MB) : Prop := PTs X ifs (TMB X.K X.mg W m)
theorem dts_nil : DTs X W [] mYes := ⟨fun pins s σ H Q I ⟨δ, ds, vs, r, p⟩ => (pts_nil (X := X)).run pins s σ H Q I (p H r)⟩
theorem dts_one {c : Expr} {m : MB} (h : DT X W c m) : DTs X W [c] m := pts_one h.canon
theorem lc_sem {wi : TI} {is : List Nat} {g : Tg} {mi : Env → R (List D)} {mt : MB} {m : M} (i2 : ∀ σ H δ ds vs R, Rel X.K X.mg H δ σ ds vs → PostG X.K X.mg W σ ds vs (okI X.K X.mg σ ds vs R) (mi δ) → wi σ H R) (hgs : ∀ i ∈ g.slots, i ∈ is) :
    ∀ σ H δ ds vs Q, Rel X.K X.mg H δ σ ds vs → PostG X.K X.mg W σ ds vs (okE X.K X.mg σ ds vs Q) (mLc g is mi mt m δ) → tLc wi (g.g X.K) (TMB X.K X.mg W0 mt) (TM X.K X.mg W0 m) is σ H Q := by
  intro σ H δ ds vs Q r p
  refine i2 σ H δ ds vs _ r (p.bind fun xs δ1 q => ?_)
  intro J H1 ts us hl r1 sw Dl hD
  by_cases hall : is.all (fun i => decide (i < δ1.length)) = true
  · rw [if_pos hall] at q
    have hin : ∀ i ∈ is, i < δ1.length := fun i hi => of_decide_eq_true (List.all_eq_true.mp hall i hi)
    have rw1 := Rel.wipes r1 hin
    have rw2 := Rel.swap (by rw [savesD_len, savesV_len]) hl rw1
    have rw3 := (Rel.newOwn (es := []) (us := []) (k := .lst .own) (o := .lst []) rfl rw2 hD rfl fun Hs => upd_same).back hl
    refine ⟨fun i mm H' => i + mm = xs.length ∧ ∃ δ' acc, δ'.length = δ1.length ∧ Rel X.K X.mg H' δ' (wipe σ is) (ts ++ (some (.lst .own acc) :: (savesD δ1 is ++ ds))) (us ++ (some (.ref Dl) :: (savesV σ is ++ vs))) ∧
      PostG X.K X.mg W σ ds vs (okE X.K X.mg σ ds vs Q) ((loopC g is mt m (xs.drop i) δ' acc).bind fun acc δ2 => .ok (.lst .own acc) (restore is (savesD δ1 is) δ2)), ⟨xs.length, Nat.zero_add _, wipeD δ1 is, [], wipeD_len _ _, rw3, by rw [List.drop_zero]; exact q⟩, ?_⟩
    rintro i mm H' ⟨em, δ', acc, hδ, r', pp⟩
    by_cases hlt : i < xs.length
    · refine .inr ⟨sw.goes i H' δ' _ _ _ hlt r', fun H2 => ∃ δ2 acc2, δ2.length = δ1.length ∧ Rel X.K X.mg H2 δ2 (wipe σ is) (ts ++ (some (.lst .own acc2) :: (savesD δ1 is ++ ds))) (us ++ (some (.ref Dl) :: (savesV σ is ++ vs))) ∧
        PostG X.K X.mg W σ ds vs (okE X.K X.mg σ ds vs Q) ((loopC g is mt m (xs.drop (i + 1)) δ2 acc2).bind fun acc δ2 => .ok (.lst .own acc) (restore is (savesD δ1 is) δ2)), fun H2 n => ⟨mm - 1, by omega, by omega, n⟩, fun x H2 y => ?_⟩
      have hx : xs[i]? = some xs[i] := by simp [hlt]
      have r2 := sw.gives i H' x H2 δ' _ _ _ xs[i] hx r' y
      rw [List.drop_eq_getElem_cons hlt] at pp
      unfold loopC at pp
      cases hput : g.put xs[i] δ' with
      | none =>
        rw [hput] at pp
        exact pp.elim
      | some δ2 =>
        rw [hput] at pp
        dsimp only at pp
        refine put_ok r2 hput fun σ1 a1 r3 => ?_
        have hl1 : σ1.length = σ.length := by
          have e1 := r3.len
          have e2 := r2.len
          rw [wipe_length] at e2
          rw [e1, put_len hput, ← e2]
        have hwp : wipe σ1 is = wipe σ is := wipe_agree hgs a1 hl1
        refine ⟨hwp, ?_⟩
        have hin2 : ∀ (δ3 : Env), δ3.length = δ'.length → ∀ j ∈ is, j < δ3.length := fun δ3 e j hj => by rw [e, hδ]; exact hin j hj
        refine ⟨δ2, _, _, r3, ?_⟩
        cases hmt : mt δ2 with
        | bad =>
          rw [hmt] at pp
          exact pp.elim
        | exc c fs dp δ3 =>
          rw [hmt] at pp
          exact pp.elim
        | ok b δ3 =>
          rw [hmt] at pp
          intro H3 r4
          cases b with
          | false =>
            rw [if_neg Bool.false_ne_true]
            dsimp only at pp
            by_cases hl3 : δ3.length = δ'.length
            · rw [if_pos hl3] at pp
              refine ⟨wipeD δ3 is, acc, by rw [wipeD_len, hl3, hδ], ?_, pp⟩
              rw [← hwp]
              exact Rel.forget r4 (hin2 δ3 hl3)
            · rw [if_neg hl3] at pp
              exact pp.elim
          | true =>
            rw [if_pos rfl]
            dsimp only at pp
            refine ⟨δ3, _, _, r4, ?_⟩
            cases hm : m δ3 with
            | bad =>
              rw [hm] at pp
              exact pp.elim
            | exc c fs dp δ4 =>
              rw [hm] at pp
              exact pp.elim
            | ok d δ4 =>
              rw [hm] at pp
              dsimp only at pp
              by_cases hz : acc.length < sizeLine ∧ δ4.length = δ'.length
              · rw [if_pos hz] at pp
                intro v H4 r5
                have r6 := Rel.front (l := some d :: ts) (w := some v :: us) (by rw [List.length_cons, List.length_cons, hl]) r5
                obtain ⟨p0, us0, e0, e1, e2, r7⟩ := Rel.app r6
                cases e0
                refine ⟨us0, e2, by rw [e1]; exact hz.1, wipeD δ4 is, acc ++ [d], by rw [wipeD_len, hz.2, hδ], ?_, pp⟩
                rw [← hwp]
                exact Rel.forget (r7.back hl) (hin2 δ4 hz.2)
              · rw [if_neg hz] at pp
                exact pp.elim
    · have e : xs.length ≤ i := by omega
      rw [List.drop_eq_nil_of_le e] at pp
      have ei : i = xs.length := by omega
      subst ei
      refine .inl ⟨sw.stops H' δ' _ _ _ r', ?_⟩
      have pp' : okE X.K X.mg σ ds vs Q (.lst .own acc) (restore is (savesD δ1 is) δ') := pp
      refine pp' (.ref Dl) H' ?_
      have r4 := Rel.drop hl r'
      have r5 := Rel.back (l := savesD δ1 is) (w := savesV σ is) (by rw [savesD_len, savesV_len]) r4
      exact Rel.restored r5 (savesD_len _ _) fun j hj => by rw [hδ]; exact hin j hj
  · rw [if_neg hall] at q
    exact q.elim
theorem de_lc {elt tg iter : Expr} {ifs : List Expr} {scope : Scope} {own : List (Str × Nat)} {pos : Pos} {g : Tg} {mi : Env → R (List D)} {mt : MB} {m : M} (hc : X.calm = true) (hN : X.N.Nodup) (hi : DI X W tg iter mi) (ok : BlkOk X.N X.env.scope scope own)
    (hg : ∀ (s : Shared) (H : Hp) (C : Addr) (cl : List (Str × Addr)) (fp : List Addr), DG (X.blk s H scope (compEnvC scope cl C X.env) fp) tg g)
    (ht : ∀ (s : Shared) (H : Hp) (C : Addr) (cl : List (Str × Addr)) (fp : List Addr), DTs (X.blk s H scope (compEnvC scope cl C X.env) fp) W0 ifs mt)
    (he : ∀ (s : Shared) (H : Hp) (C : Addr) (cl : List (Str × Addr)) (fp : List Addr), DE (X.blk s H scope (compEnvC scope cl C X.env) fp) W0 elt m) (hgs : ∀ i ∈ g.slots, i ∈ own.map (·.2)) (hs : ∀ x, foldedSetIterable iter X.env x = pure x := by intro _; rfl) :
    DE X W (.ListComp elt [⟨tg, iter, ifs, 0⟩] scope pos) (mLc g (own.map (·.2)) mi mt m) := by
  obtain ⟨wi, i1, i2⟩ := hi
  exact ⟨_, pe_lc hc hN i1 ok (fun s H C cl fp => show PG _ tg (g.g X.K) from (hg s H C cl fp).pg) (fun s H C cl fp => show PTs _ ifs (TMB X.K X.mg W0 mt) from ht s H C cl fp) (fun s H C cl fp => show PE _ elt (TM X.K X.mg W0 m) from (he s H C cl fp).canon) hs, lc_sem i2 hgs⟩
theorem ds_setLc {i : Nat} {y : Str} {py : Pos} {elt tg iter : Expr} {ifs : List Expr} {scope : Scope} {own : List (Str × Nat)} {pos spos : Pos} {g : Tg} {mi : Env → R (List D)} {mt : MB} {m : M} (hc : X.calm = true) (hN : X.N.Nodup) (hy : X.N[i]? = some y) (hyl : X.env.scope.names.lookup y = some .local)
    (hsw : swapsWith (.ListComp elt [⟨tg, iter, ifs, 0⟩] scope pos) (some (.Name y py)) spos.line X.env = pure true) (hi : DI X W tg iter mi) (ok : BlkOk X.N X.env.scope scope own)
    (hg : ∀ (s : Shared) (H : Hp) (C : Addr) (cl : List (Str × Addr)) (fp : List Addr), DG (X.blk s H scope (compEnvC scope cl C X.env) fp) tg g)
    (ht : ∀ (s : Shared) (H : Hp) (C : Addr) (cl : List (Str × Addr)) (fp : List Addr), DTs (X.blk s H scope (compEnvC scope cl C X.env) fp) W0 ifs mt)
    (he : ∀ (s : Shared) (H : Hp) (C : Addr) (cl : List (Str × Addr)) (fp : List Addr), DE (X.blk s H scope (compEnvC scope cl C X.env) fp) W0 elt m) (hgs : ∀ i ∈ g.slots, i ∈ own.map (·.2)) (hs : ∀ x, foldedSetIterable iter X.env x = pure x := by intro _; rfl) :
    DS X W (.Assign [.Name y py] (.ListComp elt [⟨tg, iter, ifs, 0⟩] scope pos) spos) [i] (sSet i (mLc g (own.map (·.2)) mi mt m)) := by
  obtain ⟨wi, i1, i2⟩ := hi
  refine ⟨_, ps_setLc (i := i) hc hN hy hyl hsw i1 ok (fun s H C cl fp => show PG _ tg (g.g X.K) from (hg s H C cl fp).pg) (fun s H C cl fp => show PTs _ ifs (TMB X.K X.mg W0 mt) from ht s H C cl fp) (fun s H C cl fp => show PE _ elt (TM X.K X.mg W0 m) from (he s H C cl fp).canon) hs, fun Dd σ H δ ds vs r p => ?_⟩
  exact lc_sem i2 hgs σ H δ ds vs _ r (p.bindG fun d δ1 q => fun v H1 r1 => set_post (A := [i]) r1 q)
end
end DN

/-! Dn6: defs and calls. -/
namespace DN
open PySem PySem.Spec PyProof.Rows L2

/-- what the parameters are behind a body that stores into the slots A -/
def mask : Nat → Nat → List Nat → Env → Env
  | 0, _, _, _ => []
  | n + 1, j, A, d :: δ => (if A.contains j = true then none else d) :: mask n (j + 1) A δ
  | n + 1, j, A, [] => none :: mask n (j + 1) A []
section
variable {K : PySem.W.Frag} {mg : Str → Option Value} {Hs H : Hp}
theorem mask_ok : ∀ {n j : Nat} {A : List Nat} {δ : Env} {σ τ : List (Option V)} {F : List Addr}, Vos K mg Hs H δ σ F → τ.length = n → (∀ i, i < n → (j + i) ∉ A → σ[i]? = τ[i]?) → ∃ F', Vos K mg Hs H (mask n j A δ) τ F' ∧ F'.Sublist F
  | 0, j, A, δ, σ, τ, F, h, hl, e => by
    have : τ = [] := List.eq_nil_of_length_eq_zero hl
    subst this
    exact ⟨[], ⟨rfl, rfl⟩, List.nil_sublist F⟩
  | n + 1, j, A, δ, σ, [], F, h, hl, e => by cases hl
  | n + 1, j, A, [], σ, t :: τ, F, h, hl, e => by
    obtain ⟨F', h1, h2⟩ := mask_ok (n := n) (j := j + 1) (A := A) (δ := []) (σ := []) (τ := τ) (F := []) ⟨rfl, rfl⟩ (by simpa using hl) (fun i hi hn => by
      have q := e (i + 1) (by omega) (by rw [show j + (i + 1) = j + 1 + i by omega]; exact hn)
      rw [h.1] at q
      simpa using q)
    exact ⟨F', ⟨t, τ, [], F', rfl, rfl, h1, rfl⟩, h2.trans (List.nil_sublist F)⟩
  | n + 1, j, A, d :: δ, σ, t :: τ, F, h, hl, e => by
    obtain ⟨v, ws, F1, F2, e1, e2, e3, e4⟩ := h
    subst e1
    subst e4
    obtain ⟨F', h1, h2⟩ := mask_ok (n := n) (j := j + 1) (A := A) (τ := τ) e3 (by simpa using hl) (fun i hi hn => by
      have q := e (i + 1) (by omega) (by rw [show j + (i + 1) = j + 1 + i by omega]; exact hn)
      simpa using q)
    unfold mask
    by_cases hA : A.contains j = true
    · rw [if_pos hA]
      exact ⟨F', ⟨t, τ, [], F', rfl, rfl, h1, rfl⟩, h2.trans (List.sublist_append_right F1 F2)⟩
    · rw [if_neg hA]
      have q := e 0 (Nat.succ_pos n) (fun hm => hA (List.contains_iff_mem.mpr (by simpa using hm)))
      have : v = t := by simpa using q
      subst this
      exact ⟨F1 ++ F', ⟨v, τ, F1, F', rfl, e2, h1, rfl⟩, List.Sublist.append (List.Sublist.refl F1) h2⟩
theorem Rel.masked {n : Nat} {A : List Nat} {δ ds : Env} {σ vs τ : List (Option V)} (h : Rel K mg H δ σ ds vs) (hl : τ.length = n) (e : ∀ i, i < n → i ∉ A → σ[i]? = τ[i]?) : Rel K mg H (mask n 0 A δ) τ ds vs := by
  obtain ⟨Hs, F, G, s, h1, h2, nd, no⟩ := h
  obtain ⟨F', q1, q2⟩ := mask_ok (j := 0) h1 hl (fun i hi hn => e i hi (by rw [Nat.zero_add] at hn; exact hn))
  have sl : List.Sublist (F' ++ G) (F ++ G) := List.Sublist.append q2 (List.Sublist.refl G)
  exact ⟨Hs, F', G, s, q1, h2, sl.nodup nd, fun a ha => no a (sl.subset ha)⟩
/-- into a callee's frame: its slots are the front things, the caller's slots lie beside -/
theorem Rel.enter {l δ ds : Env} {w σ vs : List (Option V)} (hl : w.length = l.length) (h : Rel K mg H δ σ (l ++ ds) (w ++ vs)) : Rel K mg H l w (δ ++ ds) (σ ++ vs) := by
  obtain ⟨Hs, F, G, s, h1, h2, nd, no⟩ := h
  obtain ⟨us, us', G1, G2, e, q1, q2, e2⟩ := vos_split h2
  have hl' : us.length = w.length := by rw [vos_len q1, hl]
  obtain ⟨rfl, rfl⟩ := List.append_inj e.symm hl'
  subst e2
  have pm : (G1 ++ (F ++ G2)).Perm (F ++ (G1 ++ G2)) := by
    rw [← List.append_assoc, ← List.append_assoc]
    exact List.Perm.append_right G2 List.perm_append_comm
  exact ⟨Hs, G1, F ++ G2, s, q1, vos_append h1 q2, pm.nodup_iff.mpr nd, fun a ha => no a (pm.mem_iff.mp ha)⟩
theorem Rel.leave {l δ ds m : Env} {w σ vs u : List (Option V)} (hm : u.length = m.length) (hs : σ.length = δ.length) (h : Rel K mg H l w (m ++ (δ ++ ds)) (u ++ (σ ++ vs))) : Rel K mg H δ σ (m ++ (l ++ ds)) (u ++ (w ++ vs)) := by
  obtain ⟨Hs, F, G, s, h1, h2, nd, no⟩ := h
  obtain ⟨us, us', G1, G2, e, q1, q2, e2⟩ := vos_split h2
  have hl' : us.length = u.length := by rw [vos_len q1, hm]
  obtain ⟨rfl, rfl⟩ := List.append_inj e.symm hl'
  obtain ⟨ws, ws', G3, G4, e3, q3, q4, e4⟩ := vos_split q2
  have hm' : ws.length = σ.length := by rw [vos_len q3, hs]
  obtain ⟨rfl, rfl⟩ := List.append_inj e3.symm hm'
  subst e2
  subst e4
  have pm : (G3 ++ (G1 ++ (F ++ G4))).Perm (F ++ (G1 ++ (G3 ++ G4))) := by
    refine List.perm_append_comm.trans ?_
    have p1 : ((G1 ++ (F ++ G4)) ++ G3).Perm ((F ++ (G1 ++ G4)) ++ G3) := List.Perm.append_right G3 (by
      rw [← List.append_assoc, ← List.append_assoc]
      exact List.Perm.append_right G4 List.perm_append_comm)
    refine p1.trans ?_
    rw [List.append_assoc, List.append_assoc]
    exact List.Perm.append_left F (List.Perm.append_left G1 List.perm_append_comm)
  exact ⟨Hs, G3, G1 ++ (F ++ G4), s, q3, vos_append q1 (vos_append h1 q4), pm.nodup_iff.mpr nd, fun a ha => no a (pm.mem_iff.mp ha)⟩
end

/-- a def's promise -/
def spD (K : PySem.W.Frag) (mg : Str → Option Value) (np : Nat) (mf : MF) : Sp := fun vs H Q E => vs.length = np ∧ ∃ (as : List D) (ds : Env) (ws : List (Option V)), Rel K mg H (as.map some) (vs.map some) ds ws ∧
  match mf as with
  | .ok d as' => ∀ v H', Rel K mg H' as' (vs.map some) (some d :: ds) (some v :: ws) → Q v H'
  | .exc c fs dp as' => ∀ cls dd vp H', XO mg H' c fs vp cls dd → Rel K mg H' as' (vs.map some) (dp.map some ++ ds) (vp.map some ++ ws) → vp.length = dp.length → E cls dd H'
  | .bad => False
/-- a body's meaning as a def's: nN slots, np parameters, A stored into -/
def mfOf (nN np : Nat) (A : List Nat) (m : MS) : MF := fun as => match m (as.map some ++ List.replicate (nN - np) none) with
  | .nx δ => .ok .non (mask np 0 A δ)
  | .rt d δ => .ok d (mask np 0 A δ)
  | .exc c fs dp δ => .exc c fs dp (mask np 0 A δ)
  | _ => .bad
theorem vos_none {K : PySem.W.Frag} {mg : Str → Option Value} {Hs H : Hp} : ∀ n : Nat, Vos K mg Hs H (List.replicate n none) (List.replicate n none) []
  | 0 => ⟨rfl, rfl⟩
  | n + 1 => ⟨none, List.replicate n none, [], [], rfl, rfl, vos_none n, rfl⟩
section
variable {P : Program} {w : World} {K : PySem.W.Frag} {mg : Str → Option Value} {base : Heap}
/-- the wish of a def's body -/
abbrev WD (E : XK) : WX := fun cls d _ H => E cls d H
theorem fn_ok {x qual : Str} {st : Stmt} {f : Addr} {fd : FuncData} {N ps : List Str} {k : Nat} {A : List Nat} {m : MS} (F : Fun K x qual st f fd) (S : FnScope N ps (defScope st)) (hN : ps.length ≤ N.length)
    (hbody : ∀ (cdv : Value) (Ar : Around) (outer : List PySem.Env) (s : Shared) (H : Hp) (E : XK), Room k (Ar.deeper (envOfC qual (defScope st) s.heap.objs.size f cdv)) →
      Takes (cxOf (L2.CX P w) P w K mg base N qual (defScope st) f cdv Ar outer s H E) (WD E) → DSs (cxOf (L2.CX P w) P w K mg base N qual (defScope st) f cdv Ar outer s H E) (WD E) (defBody st) A m) :
    FnOk P w K mg base (L2.CX P w) (k + 1) f fd ps (spD K mg ps.length (mfOf N.length ps.length A m)) := by
  refine F.okX S (fun vs H Q E h => h.1) fun cdv Ar outer s H vs Q E hr h => ?_
  obtain ⟨hl, as, ds, ws, r, q⟩ := h
  have tk : Takes (cxOf (L2.CX P w) P w K mg base N qual (defScope st) f cdv Ar outer s H E) (WD E) := takes_of rfl rfl rfl rfl
  obtain ⟨t, h1, h2⟩ := hbody cdv Ar outer s H E hr tk
  refine ⟨t, h1, ?_⟩
  have hal : as.length = vs.length := by
    have := r.len
    rw [List.length_map, List.length_map] at this
    exact this.symm
  have e0 : L2.start N vs = vs.map some ++ List.replicate (N.length - ps.length) none := by
    unfold L2.start
    rw [hl]
  have r0 : Rel K mg H (as.map some ++ List.replicate (N.length - ps.length) none) (L2.start N vs) ds ws := by
    rw [e0]
    obtain ⟨Hs, F, G, s, g1, g2, nd, no⟩ := r
    have g3 := vos_append g1 (vos_none (K := K) (mg := mg) (Hs := Hs) (H := H) (N.length - ps.length))
    rw [List.append_nil] at g3
    exact ⟨Hs, F, G, s, g3, g2, nd, no⟩
  have back : ∀ {σ' : L2.St}, Agree A (L2.start N vs) σ' → ∀ i, i < ps.length → i ∉ A → σ'[i]? = (vs.map some)[i]? := fun {σ'} ag i hi hn => by
    rw [ag i hn, e0, List.getElem?_append_left (by rw [List.length_map, hl]; exact hi)]
  refine h2 _ (L2.start N vs) H _ ds ws r0 ?_
  unfold mfOf at q
  cases hm : m (as.map some ++ List.replicate (N.length - ps.length) none) with
  | nx δ =>
    rw [hm] at q
    exact fun σ' H' ag r' => q .non H' ((Rel.masked r' (by rw [List.length_map, hl]) (back ag)).push fun Hs => ⟨rfl, rfl⟩)
  | rt d δ =>
    rw [hm] at q
    exact fun σ' v H' ag r' => q v H' (Rel.masked r' (by rw [List.length_map, hl]) (back ag))
  | exc c fs dp δ =>
    rw [hm] at q
    exact fun σ' cls dd vp H' ag x r' hv => q cls dd vp H' x (Rel.masked r' (by rw [List.length_map, hl]) (back ag)) hv
  | bk δ =>
    rw [hm] at q
    exact q.elim
  | ct δ =>
    rw [hm] at q
    exact q.elim
  | bad =>
    rw [hm] at q
    exact q.elim
end

/-! ### calls: an argument is a variable that is lent, or a value -/
inductive Arg where
  | ref (i : Nat) | val (m : M)
def Arg.run : Arg → Env → R D
  | .ref i, δ => mMove i δ
  | .val m, δ => m δ
def runsA : List Arg → Env → R (List D)
  | [], δ => .ok [] δ
  | a :: as, δ => (a.run δ).bind fun d δ1 => (runsA as δ1).bind fun l δ2 => .ok (d :: l) δ2
def putBack : List Arg → Env → Env → Option Env
  | [], [], δ => some δ
  | .ref i :: as, d :: ds, δ => if i < δ.length then putBack as ds (δ.set i d) else none
  | .val _ :: as, _ :: ds, δ => putBack as ds δ
  | _, _, _ => none
def AtRef (σ : L2.St) : List Arg → List V → Prop
  | [], [] => True
  | .ref i :: as, v :: vs => σ[i]? = some (some v) ∧ AtRef σ as vs
  | .val _ :: as, _ :: vs => AtRef σ as vs
  | _, _ => False
def mCall (mf : MF) (args : List Arg) : M := fun δ => (runsA args δ).bind fun l δ1 => match mf l with
  | .ok d as' => (match putBack args as' δ1 with
    | some δ2 => .ok d δ2
    | none => .bad)
  | .exc c fs dp as' => (match putBack args as' δ1 with
    | some δ2 => .exc c fs dp δ2
    | none => .bad)
  | .bad => .bad
section
variable {X : Cx} {W : WX}
variable (X W) in
def DAr (e : Expr) : Arg → Prop
  | .ref i => PE X e (tVar i)
  | .val m => DE X W e m
variable (X W) in
def DArs : List Expr → List Arg → Prop
  | [], [] => True
  | e :: es, a :: as => DAr X W e a ∧ DArs es as
  | _, _ => False
def okAr (K : PySem.W.Frag) (mg : Str → Option Value) (σ : L2.St) (ds : Env) (vs : List (Option V)) (args : List Arg) (k : List V → Hp → Prop) (l : List D) (δ : Env) : Prop :=
  ∀ ws H', Rel K mg H' δ σ (l.map some ++ ds) (ws.map some ++ vs) → ws.length = l.length → AtRef σ args ws → k ws H'
theorem args_ok : ∀ {es : List Expr} {as : List Arg}, DArs X W es as → ∃ ts, PEs X es ts ∧ ∀ σ H δ ds vs k, Rel X.K X.mg H δ σ ds vs → PostG X.K X.mg W σ ds vs (okAr X.K X.mg σ ds vs as k) (runsA as δ) → tArgs ts σ H k
  | [], [], _ => ⟨[], trivial, fun σ H δ ds vs k r p => p [] H r rfl trivial⟩
  | e :: es, .ref i :: as, h => by
    obtain ⟨ts, h1, h2⟩ := args_ok h.2
    refine ⟨tVar i :: ts, ⟨h.1, h1⟩, fun σ H δ ds vs k r p => ?_⟩
    cases hd : δ[i]? with
    | none => simp only [runsA, Arg.run, mMove, hd, R.bind, PostG] at p
    | some od =>
      cases od with
      | none => simp only [runsA, Arg.run, mMove, hd, R.bind, PostG] at p
      | some d =>
        simp only [runsA, Arg.run, mMove, hd, R.bind_ok] at p
        obtain ⟨v, e2, r2⟩ := r.take hd
        cases v with
        | none =>
          obtain ⟨v, hv⟩ := r.slot hd
          rw [hv] at e2
          cases e2
        | some v =>
          refine ⟨v, e2, ?_⟩
          refine h2 σ H (δ.set i none) (some d :: ds) (some v :: vs) _ r2 ?_
          refine PostG.more (l := [some d]) (w := [some v]) rfl (p.bind (okp := fun l δ2 => okAr X.K X.mg σ ds vs (.ref i :: as) k (d :: l) δ2) fun l δ2 q => q) fun l δ2 q => ?_
          intro ws H2 r3 hl ar
          exact q (v :: ws) H2 (r3.front (by rw [List.length_map, List.length_map, hl])) (by rw [List.length_cons, List.length_cons, hl]) ⟨e2, ar⟩
  | e :: es, .val m :: as, h => by
    obtain ⟨ts, h1, h2⟩ := args_ok h.2
    obtain ⟨t, g1, g2⟩ := h.1
    refine ⟨t :: ts, ⟨g1, h1⟩, fun σ H δ ds vs k r p => ?_⟩
    refine g2 σ H δ ds vs _ r ((show PostG X.K X.mg W σ ds vs (okAr X.K X.mg σ ds vs (.val m :: as) k) ((m δ).bind fun d δ1 => (runsA as δ1).bind fun l δ2 => .ok (d :: l) δ2) from p).bind fun d δ1 hp => fun v H1 r1 => ?_)
    refine h2 σ H1 δ1 (some d :: ds) (some v :: vs) _ r1 ?_
    refine PostG.more (l := [some d]) (w := [some v]) rfl (hp.bind (okp := fun l δ2 => okAr X.K X.mg σ ds vs (.val m :: as) k (d :: l) δ2) fun l δ2 q => q) fun l δ2 q => ?_
    intro ws H2 r3 hl ar
    exact q (v :: ws) H2 (r3.front (by rw [List.length_map, List.length_map, hl])) (by rw [List.length_cons, List.length_cons, hl]) ar
/-- the lent things come back to their slots -/
theorem put_back {K : PySem.W.Frag} {mg : Str → Option Value} {H : Hp} : ∀ {args : List Arg} {as δ δ' m ds : Env} {ws : List V} {σ u vs : List (Option V)}, AtRef σ args ws → as.length = ws.length → u.length = m.length → Rel K mg H δ σ (m ++ (as ++ ds)) (u ++ (ws.map some ++ vs)) → putBack args as δ = some δ' →
    Rel K mg H δ' σ (m ++ ds) (u ++ vs)
  | [], [], δ, δ', m, ds, [], σ, u, vs, _, _, _, r, e => by
    cases e
    exact r
  | .ref i :: args, a :: as, δ, δ', m, ds, v :: ws, σ, u, vs, h, hl, hm, r, e => by
    unfold putBack at e
    split at e
    · rename_i hi
      have r2 : Rel K mg H δ σ (a :: (m ++ (as ++ ds))) (some v :: (u ++ (ws.map some ++ vs))) := Rel.front hm r
      have r3 := r2.assign hi
      rw [set_same h.1] at r3
      exact put_back h.2 (by simpa using hl) hm r3 e
    · cases e
  | .val mm :: args, a :: as, δ, δ', m, ds, v :: ws, σ, u, vs, h, hl, hm, r, e => by
    have r2 : Rel K mg H δ σ (a :: (m ++ (as ++ ds))) (some v :: (u ++ (ws.map some ++ vs))) := Rel.front hm r
    exact put_back (args := args) h (by simpa using hl) hm r2.tail e
/-- the callee's promise answers -/
theorem call_sem {mf : MF} {args : List Arg} {np : Nat} {σ : L2.St} {ds : Env} {vs : List (Option V)} {Q : VK} {l : List D} {δ1 : Env} (hnp : args.length = np)
    (p : PostG X.K X.mg W σ ds vs (okE X.K X.mg σ ds vs Q) (match mf l with
      | .ok d as' => (match putBack args as' δ1 with
        | some δ2 => .ok d δ2
        | none => .bad)
      | .exc c fs dp as' => (match putBack args as' δ1 with
        | some δ2 => .exc c fs dp δ2
        | none => .bad)
      | .bad => .bad)) : okAr X.K X.mg σ ds vs args (fun ws H' => spD X.K X.mg np mf ws H' Q (WE W σ)) l δ1 := by
  intro ws H1 r1 hl ar
  have har : ∀ {args : List Arg} {ws : List V}, AtRef σ args ws → ws.length = args.length := fun {args} => by
    induction args with
    | nil =>
      intro ws h
      cases ws with
      | nil => rfl
      | cons _ _ => exact h.elim
    | cons a args ih =>
      intro ws h
      cases ws with
      | nil => cases a <;> exact h.elim
      | cons v ws =>
        cases a with
        | ref i => rw [List.length_cons, List.length_cons, ih h.2]
        | val m => rw [List.length_cons, List.length_cons, ih h]
  refine ⟨by rw [har ar, hnp], l, δ1 ++ ds, σ ++ vs, Rel.enter (by rw [List.length_map, List.length_map, hl]) r1, ?_⟩
  have hσ := r1.len
  have hlm : (l.map some : Env).length = ws.length := by rw [List.length_map, hl]
  cases hf : mf l with
  | bad =>
    rw [hf] at p
    exact p.elim
  | ok d as' =>
    rw [hf] at p
    dsimp only at p
    intro v H2 r2
    have hal : as'.length = ws.length := by
      have := r2.len
      rw [List.length_map] at this
      exact this.symm
    have r3 := Rel.leave (m := [some d]) (u := [some v]) rfl hσ r2
    cases hb : putBack args as' δ1 with
    | none =>
      rw [hb] at p
      exact p.elim
    | some δ2 =>
      rw [hb] at p
      exact p v H2 (put_back ar hal rfl r3 hb)
  | exc c fs dp as' =>
    rw [hf] at p
    dsimp only at p
    intro cls dd vp H2 x r2 hv
    have hal : as'.length = ws.length := by
      have := r2.len
      rw [List.length_map] at this
      exact this.symm
    have r3 := Rel.leave (m := dp.map some) (u := vp.map some) (by rw [List.length_map, List.length_map, hv]) hσ r2
    cases hb : putBack args as' δ1 with
    | none =>
      rw [hb] at p
      exact p.elim
    | some δ2 =>
      rw [hb] at p
      exact p cls dd vp H2 x (put_back ar hal (by rw [List.length_map, List.length_map, hv]) r3 hb) hv
theorem de_call {k : Nat} {f : Addr} {fd : FuncData} {ps : List Str} {mf : MF} {x : Str} {p pos : Pos} {e : Expr} {es : List Expr} {args : List Arg} (F : FnOk X.prog X.w X.K X.mg X.base (L2.CX X.prog X.w) k f fd ps (spD X.K X.mg ps.length mf)) (hr : Room k X.A) (hg : Gl X x) (hm : X.mg x = some (.ref f))
    (hk : PySem.W.keepIn X.K (.ref f) = true) (hb : Binds X.K fd ps []) (tk : Takes X W) (ha : DArs X W (e :: es) args) (hnp : args.length = ps.length)
    (hst : ∀ e' ∈ e :: es, ∀ r, starEach (e' :: r) X.env = (false, eval e' X.env) :: starEach r X.env)
    (hdb : (x == ("__debug__" : Str)) = false := by decide) (hpl : (backTo pos (starEach es X.env)).any (·.1) = false := by rfl) : DE X W (.Call (.Name x p) (e :: es) [] pos) (mCall mf args) := by
  obtain ⟨ts, h1, h2⟩ := args_ok ha
  refine ⟨_, pe_callS F hr hg hm hk hb (fun σ => passAt tk σ) (pa_args h1 hst) hdb (hst e List.mem_cons_self es) hpl, fun σ H δ ds vs Q r p => ?_⟩
  exact h2 σ H δ ds vs _ r (p.bind fun l δ1 hp => call_sem hnp hp)
end
end DN

/-! Dn7: operators and built-ins over data. -/
namespace DN
open PySem PySem.Spec PyProof.Rows L2

section
variable {K : PySem.W.Frag} {mg : Str → Option Value} {Hs H : Hp}
theorem vws_len : ∀ {xs : List D} {ws : List V}, Vws K mg Hs H xs ws → ws.length = xs.length
  | [], [], _ => rfl
  | _ :: _, _ :: _, h => by rw [List.length_cons, List.length_cons, vws_len h.2]
theorem vws2 {x y : D} : ∀ {ws : List V}, Vws K mg Hs H [x, y] ws → ∃ v w, ws = [v, w] ∧ (∃ F, Vr K mg Hs H x v F) ∧ ∃ F, Vr K mg Hs H y w F
  | [v, w], h => ⟨v, w, rfl, h.1, h.2.1⟩
theorem vws1 {x : D} : ∀ {ws : List V}, Vws K mg Hs H [x] ws → ∃ v, ws = [v] ∧ ∃ F, Vr K mg Hs H x v F
  | [v], h => ⟨v, rfl, h.1⟩
theorem vws_scal : ∀ {xs : List D} {ws : List V}, Vws K mg Hs H xs ws → xs.all isSc = true → ws = xs.map sc
  | [], [], _, _ => rfl
  | d :: xs, w :: ws, h, e => by
    rw [List.all_cons, Bool.and_eq_true] at e
    obtain ⟨F, q⟩ := h.1
    have e1 : w = sc d := by
      cases d with
      | con k es => cases e.1
      | non => exact q.1
      | bl b => exact q.1
      | int i => exact q.1
      | str x => exact q.1
    rw [e1, vws_scal h.2 e.2]
    rfl
/-- the parts of a thing that is looked at -/
theorem vr_seq {k : Kd} {es : List D} {v : V} {F : List Addr} (s : Sub Hs H) (h : Vr K mg Hs H (.con k es) v F) : ∃ a us G, v = .ref a ∧ RdK K H a us k ∧ Vrs K mg Hs H es us G := by
  obtain ⟨a, us, G, e1, e2, e3, e4⟩ := h
  exact ⟨a, us, G, e1, at_rd s e2, e3⟩
theorem vrs_scal : ∀ {es : List D} {us : List V} {G : List Addr}, Vrs K mg Hs H es us G → es.all isSc = true → us = es.map sc
  | [], us, G, h, _ => h.1
  | d :: es, us, G, h, e => by
    obtain ⟨v, ws, F1, F2, e1, e2, e3, e4⟩ := h
    rw [List.all_cons, Bool.and_eq_true] at e
    have ev : v = sc d := by
      cases d with
      | con k es => cases e.1
      | non => exact e2.1
      | bl b => exact e2.1
      | int i => exact e2.1
      | str x => exact e2.1
    rw [e1, ev, vrs_scal e3 e.2]
    rfl
theorem vrs_pureAll : ∀ {es : List D} {us : List V} {G : List Addr}, D.pures es = true → Vrs K mg Hs H es us G → Vrs K mg Hs H es us [] := fun p h => by
  have := vrs_pure _ _ _ p h
  subst this
  exact h
end
/-! ### what a list of operands is -/
def str2 : List D → Option (Str × Str)
  | [.str a, .str b] => some (a, b)
  | _ => none
theorem str2_eq : ∀ {l : List D} {n : Str × Str}, str2 l = some n → l = [.str n.1, .str n.2]
  | [.str a, .str b], _, rfl => rfl
def str1 : List D → Option Str
  | [.str a] => some a
  | _ => none
theorem str1_eq : ∀ {l : List D} {n : Str}, str1 l = some n → l = [.str n]
  | [.str a], _, rfl => rfl
/-- tracked lists -/
def trk2 : List D → Option (List D × List D)
  | [.con (.lst m) xs, .con (.lst m') ys] => if m = .fz ∨ m' = .fz then none else some (xs, ys)
  | _ => none
section
variable {X : Cx}
def rOr (r r' : List V → Hp → VK → Prop) : List V → Hp → VK → Prop := fun ws H Q => r ws H Q ∨ r' ws H Q
theorem okr_or {r r' : R2} {f f' : List D → Res} (p : List D → Bool) (h : OKr X (rB r) f) (h' : OKr X (rB r') f') : OKr X (rB fun x y H Q => r x y H Q ∨ r' x y H Q) (fun xs => if p xs = true then f xs else f' xs) := by
  intro Hs H xs ws Q s V q
  dsimp only at q
  by_cases hp : p xs = true
  · rw [if_pos hp] at q
    have z := h Hs H xs ws Q s V q
    match ws, z with
    | [x, y], z => exact .inl z
  · rw [if_neg hp] at q
    have z := h' Hs H xs ws Q s V q
    match ws, z with
    | [x, y], z => exact .inr z
/-- two ints -/
def fI2 (C : Int → Int → Bool) (g : Int → Int → D) : List D → Res := fun xs => match int2 xs with
  | some (i, j) => if C i j = true then .val (g i j) else .bad
  | none => .bad
theorem okr_I {C : Int → Int → Prop} {C' : Int → Int → Bool} {g : Int → Int → V} {g' : Int → Int → D} (hC : ∀ i j, C' i j = true → C i j) (hg : ∀ i j, isSc (g' i j) = true ∧ sc (g' i j) = g i j) : OKr X (rB (rI C g)) (fI2 C' g') := by
  intro Hs H xs ws Q s V q
  unfold fI2 at q
  cases h : int2 xs with
  | none =>
    rw [h] at q
    exact q.elim
  | some n =>
    obtain ⟨i, j⟩ := n
    rw [h] at q
    dsimp only at q
    have e := int2_eq h
    subst e
    have ew := vws_scal V rfl
    subst ew
    by_cases hc : C' i j = true
    · rw [if_pos hc] at q
      refine ⟨i, j, rfl, rfl, hC i j hc, ?_⟩
      rw [← (hg i j).2]
      exact q _ (vr_sc (hg i j).1)
    · rw [if_neg hc] at q
      exact q.elim
theorem okr_I0 {g : Int → Int → V} {g' : Int → Int → D} (hg : ∀ i j, isSc (g' i j) = true ∧ sc (g' i j) = g i j) : OKr X (rB (rI0 g)) (fI2 (fun _ _ => true) g') := by
  intro Hs H xs ws Q s V q
  have z := okr_I (X := X) (C := fun _ _ => True) (C' := fun _ _ => true) (g := g) (g' := g') (fun _ _ _ => trivial) hg Hs H xs ws Q s V q
  match ws, z with
  | [x, y], z =>
    obtain ⟨i, j, e1, e2, _, e3⟩ := z
    exact ⟨i, j, e1, e2, e3⟩
/-- two texts -/
def fS2 (C : Str → Str → Bool) (g : Str → Str → D) : List D → Res := fun xs => match str2 xs with
  | some (i, j) => if C i j = true then .val (g i j) else .bad
  | none => .bad
theorem okr_S {C : Str → Str → Prop} {C' : Str → Str → Bool} {g : Str → Str → V} {g' : Str → Str → D} (hC : ∀ i j, C' i j = true → C i j) (hg : ∀ i j, isSc (g' i j) = true ∧ sc (g' i j) = g i j) :
    OKr X (rB fun x y H Q => ∃ i j, x = .str i ∧ y = .str j ∧ C i j ∧ Q (g i j) H) (fS2 C' g') := by
  intro Hs H xs ws Q s V q
  unfold fS2 at q
  cases h : str2 xs with
  | none =>
    rw [h] at q
    exact q.elim
  | some n =>
    obtain ⟨i, j⟩ := n
    rw [h] at q
    dsimp only at q
    have e := str2_eq h
    subst e
    have ew := vws_scal V rfl
    subst ew
    by_cases hc : C' i j = true
    · rw [if_pos hc] at q
      refine ⟨i, j, rfl, rfl, hC i j hc, ?_⟩
      rw [← (hg i j).2]
      exact q _ (vr_sc (hg i j).1)
    · rw [if_neg hc] at q
      exact q.elim
/-- + of two lists -/
def fCat : List D → Res := fun xs => match trk2 xs with
  | some (a, b) => if (D.pures a && D.pures b && decide (a.length + b.length ≤ sizeLine)) = true then .new .lst (a ++ b) else .bad
  | none => .bad
theorem okr_cat : OKr X (rB rCat) fCat := by
  intro Hs H xs ws Q s V q
  unfold fCat at q
  cases h : trk2 xs with
  | none =>
    rw [h] at q
    exact q.elim
  | some n =>
    obtain ⟨a, b⟩ := n
    rw [h] at q
    dsimp only at q
    match xs, ws, h, V with
    | [.con (.lst m) as, .con (.lst m') bs], [x, y], h, V =>
      unfold trk2 at h
      dsimp only at h
      by_cases hm : m = .fz ∨ m' = .fz
      · rw [if_pos hm] at h
        cases h
      · rw [if_neg hm] at h
        cases h
        by_cases hc : (D.pures a && D.pures b && decide (a.length + b.length ≤ sizeLine)) = true
        · rw [if_pos hc] at q
          simp only [Bool.and_eq_true, decide_eq_true_eq] at hc
          obtain ⟨⟨p1, p2⟩, hz⟩ := hc
          obtain ⟨⟨F1, a1, us, G1, e1, e2, e3, e4⟩, ⟨F2, a2, us2, G2, f1, f2, f3, f4⟩, _⟩ := V
          subst e1
          subst f1
          have t1 : H a1 = some (.lst us) := by
            cases m with
            | own => exact e2
            | sh => exact s _ _ e2
            | fz => exact (hm (.inl rfl)).elim
          have t2 : H a2 = some (.lst us2) := by
            cases m' with
            | own => exact f2
            | sh => exact s _ _ f2
            | fz => exact (hm (.inr rfl)).elim
          refine ⟨a1, a2, us, us2, rfl, rfl, t1, t2, by rw [vrs_len e3, vrs_len f3]; exact hz, fun p hp => ?_⟩
          exact q p (us ++ us2) _ hp (vrs_append (vrs_pureAll p1 e3) (vrs_pureAll p2 f3)) fun _ => upd_same
        · rw [if_neg hc] at q
          exact q.elim
/-- + of two tuples, none empty -/
def tup2 : List D → Option (List D × List D)
  | [.con .tup xs, .con .tup ys] => some (xs, ys)
  | _ => none
theorem tup2_eq : ∀ {l : List D} {n : List D × List D}, tup2 l = some n → l = [.con .tup n.1, .con .tup n.2]
  | [.con .tup a, .con .tup b], _, rfl => rfl
def fCatT : List D → Res := fun xs => match tup2 xs with
  | some (a, b) => if (D.pures a && D.pures b && decide (a.length + b.length ≤ sizeLine) && !a.isEmpty && !b.isEmpty) = true then .new .tup (a ++ b) else .bad
  | none => .bad
theorem okr_catT : OKr X (rB (rCatT X.K)) fCatT := by
  intro Hs H xs ws Q s V q
  unfold fCatT at q
  cases h : tup2 xs with
  | none =>
    rw [h] at q
    exact q.elim
  | some n =>
    obtain ⟨a, b⟩ := n
    rw [h] at q
    dsimp only at q
    have ex := tup2_eq h
    subst ex
    by_cases hc : (D.pures a && D.pures b && decide (a.length + b.length ≤ sizeLine) && !a.isEmpty && !b.isEmpty) = true
    · rw [if_pos hc] at q
      simp only [Bool.and_eq_true, decide_eq_true_eq] at hc
      obtain ⟨⟨⟨⟨p1, p2⟩, hz⟩, n1⟩, n2⟩ := hc
      obtain ⟨v, w, rfl, ⟨F1, a1, us, G1, e1, e2, e3, e4⟩, ⟨F2, a2, us2, G2, f1, f2, f3, f4⟩⟩ := vws2 V
      subst e1
      subst f1
      have l1 := vrs_len e3
      have l2 := vrs_len f3
      have m1 : us ≠ [] := fun z => by
        rw [z] at l1
        cases a with
        | nil => cases n1
        | cons _ _ => cases l1
      have m2 : us2 ≠ [] := fun z => by
        rw [z] at l2
        cases b with
        | nil => cases n2
        | cons _ _ => cases l2
      refine ⟨a1, a2, us, us2, rfl, rfl, e2, f2, m1, by rw [l1, l2]; exact hz, fun z => (m2 z).elim, fun _ p hp => ?_⟩
      exact q p (us ++ us2) _ hp (vrs_append (vrs_pureAll p1 e3) (vrs_pureAll p2 f3)) fun _ => .inl (.inl upd_same)
    · rw [if_neg hc] at q
      exact q.elim
def isI2 (xs : List D) : Bool := (int2 xs).isSome
def isS2 (xs : List D) : Bool := (str2 xs).isSome
def isL2 (xs : List D) : Bool := (trk2 xs).isSome
def fAdd : List D → Res := fun xs => if isI2 xs = true then fI2 (fun _ _ => true) (fun i j => .int (i + j)) xs else
  (fun xs => if isS2 xs = true then fS2 (fun i j => decide (i.length + j.length ≤ sizeLine)) (fun i j => .str (i ++ j)) xs else
    (fun xs => if isL2 xs = true then fCat xs else fCatT xs) xs) xs
theorem op_addD : ∃ r, OpR X (binaryOp .Add) r ∧ OKr X (rB r) fAdd :=
  ⟨_, OpR.or op_add (OpR.or op_add_str (OpR.or op_cat op_catT)),
    okr_or isI2 (okr_I0 fun _ _ => ⟨rfl, rfl⟩) (okr_or isS2 (okr_S (fun _ _ h => of_decide_eq_true h) fun _ _ => ⟨rfl, rfl⟩) (okr_or isL2 okr_cat okr_catT))⟩
def fSub : List D → Res := fI2 (fun _ _ => true) fun i j => .int (i - j)
theorem op_subD : ∃ r, OpR X (binaryOp .Sub) r ∧ OKr X (rB r) fSub := ⟨_, op_sub, okr_I0 fun _ _ => ⟨rfl, rfl⟩⟩
def mulOk (i j : Int) : Bool := decide (i.natAbs.log2 + j.natAbs.log2 < 1000000)
/-- [..] * n -/
def lstInt : List D → Option (List D × Int)
  | [.con (.lst m) xs, .int n] => if m = .fz then none else some (xs, n)
  | _ => none
def fRep : List D → Res := fun xs => match lstInt xs with
  | some (a, n) => if (D.pures a && decide (-(2 ^ 63) ≤ n) && decide (n < 2 ^ 63) && decide (a.length * n.toNat ≤ sizeLine)) = true then .new .lst (List.replicate n.toNat a).flatten else .bad
  | none => .bad
theorem vrs_rep {K : PySem.W.Frag} {mg : Str → Option Value} {Hs H : Hp} {es : List D} {us : List V} (h : Vrs K mg Hs H es us []) : ∀ n : Nat, Vrs K mg Hs H (List.replicate n es).flatten (List.replicate n us).flatten []
  | 0 => ⟨rfl, rfl⟩
  | n + 1 => by
    rw [List.replicate_succ, List.replicate_succ, List.flatten_cons, List.flatten_cons]
    exact vrs_append h (vrs_rep h n)
theorem okr_rep : OKr X (rB rRep) fRep := by
  intro Hs H xs ws Q s V q
  unfold fRep at q
  cases h : lstInt xs with
  | none =>
    rw [h] at q
    exact q.elim
  | some n =>
    obtain ⟨a, n⟩ := n
    rw [h] at q
    dsimp only at q
    match xs, ws, h, V with
    | [.con (.lst m) as, .int k], [x, y], h, V =>
      unfold lstInt at h
      dsimp only at h
      by_cases hm : m = .fz
      · rw [if_pos hm] at h
        cases h
      · rw [if_neg hm] at h
        cases h
        by_cases hc : (D.pures a && decide (-(2 ^ 63) ≤ n) && decide (n < 2 ^ 63) && decide (a.length * n.toNat ≤ sizeLine)) = true
        · rw [if_pos hc] at q
          simp only [Bool.and_eq_true, decide_eq_true_eq] at hc
          obtain ⟨⟨⟨p1, h1⟩, h2⟩, h3⟩ := hc
          obtain ⟨⟨F1, a1, us, G1, e1, e2, e3, e4⟩, ⟨F2, f1, f2⟩, _⟩ := V
          subst e1
          subst f1
          have t1 : H a1 = some (.lst us) := by
            cases m with
            | own => exact e2
            | sh => exact s _ _ e2
            | fz => exact (hm rfl).elim
          exact ⟨a1, n, us, rfl, rfl, t1, h1, h2, by rw [vrs_len e3]; exact h3, fun p hp => q p _ _ hp (vrs_rep (vrs_pureAll p1 e3) _) fun _ => upd_same⟩
        · rw [if_neg hc] at q
          exact q.elim
def fMul : List D → Res := fun xs => if isI2 xs = true then fI2 mulOk (fun i j => .int (i * j)) xs else fRep xs
theorem op_mulD : ∃ r, OpR X (binaryOp .Mult) r ∧ OKr X (rB r) fMul :=
  ⟨_, OpR.or op_mulW op_rep, okr_or isI2 (okr_I (fun i j h => (of_decide_eq_true h : i.natAbs.log2 + j.natAbs.log2 < 1000000)) fun _ _ => ⟨rfl, rfl⟩) okr_rep⟩
def fMod : List D → Res := fI2 (fun _ j => decide (0 < j)) fun i j => .int (i % j)
theorem op_modD : ∃ r, OpR X (binaryOp .Mod) r ∧ OKr X (rB r) fMod := ⟨_, op_mod, okr_I (fun _ _ h => of_decide_eq_true h) fun _ _ => ⟨rfl, rfl⟩⟩
def divOk (_ j : Int) : Bool := decide (0 < j) && decide (j.natAbs.log2 < 9000)
def fDiv : List D → Res := fI2 divOk fun i j => .int (i / j)
theorem op_divD : ∃ r, OpR X (binaryOp .FloorDiv) r ∧ OKr X (rB r) fDiv := ⟨_, op_fdivW, okr_I (fun _ _ h => by
  unfold divOk at h
  rw [Bool.and_eq_true] at h
  exact ⟨of_decide_eq_true h.1, of_decide_eq_true h.2⟩) fun _ _ => ⟨rfl, rfl⟩⟩
def powOk (i j : Int) : Bool := decide (0 ≤ j) && decide (j ≤ 1000000) && decide (i.natAbs < 2 ^ 64)
theorem powOk_of {i j : Int} (h : powOk i j = true) : CPow i j := by
  unfold powOk at h
  simp only [Bool.and_eq_true, decide_eq_true_eq] at h
  exact ⟨h.1.1, h.1.2, h.2⟩
def fPow : List D → Res := fI2 powOk fun i j => .int (i ^ j.toNat)
theorem op_powD : ∃ r, OpR X (binaryOp .Pow) r ∧ OKr X (rB r) fPow := ⟨_, op_pow, okr_I (fun _ _ h => powOk_of h) fun _ _ => ⟨rfl, rfl⟩⟩
def fShl : List D → Res := fI2 powOk fun i j => .int (i * 2 ^ j.toNat)
theorem op_shlD : ∃ r, OpR X (binaryOp .LShift) r ∧ OKr X (rB r) fShl := ⟨_, op_shl, okr_I (fun _ _ h => powOk_of h) fun _ _ => ⟨rfl, rfl⟩⟩
def fShr : List D → Res := fI2 (fun _ j => decide (0 ≤ j)) fun i j => .int (i / 2 ^ j.toNat)
theorem op_shrD : ∃ r, OpR X (binaryOp .RShift) r ∧ OKr X (rB r) fShr := ⟨_, op_shr, okr_I (fun _ _ h => of_decide_eq_true h) fun _ _ => ⟨rfl, rfl⟩⟩
def fAnd : List D → Res := fI2 (fun _ _ => true) fun i j => .int (Builtin.bitAnd i j)
theorem op_andD : ∃ r, OpR X (binaryOp .BitAnd) r ∧ OKr X (rB r) fAnd := ⟨_, op_and, okr_I0 fun _ _ => ⟨rfl, rfl⟩⟩
/-! ### comparisons -/
def fLt : List D → Res := fI2 (fun _ _ => true) fun i j => .bl (decide (i < j))
theorem op_ltD : ∃ r, OpR X (compareOp .Lt) r ∧ OKr X (rB r) fLt := ⟨_, op_lt, okr_I0 fun _ _ => ⟨rfl, rfl⟩⟩
def fLe : List D → Res := fI2 (fun _ _ => true) fun i j => .bl (decide (i ≤ j))
theorem op_leD : ∃ r, OpR X (compareOp .LtE) r ∧ OKr X (rB r) fLe := ⟨_, op_le, okr_I0 fun _ _ => ⟨rfl, rfl⟩⟩
def fGt : List D → Res := fI2 (fun _ _ => true) fun i j => .bl (decide (j < i))
theorem op_gtD : ∃ r, OpR X (compareOp .Gt) r ∧ OKr X (rB r) fGt := ⟨_, op_gt, okr_I0 fun _ _ => ⟨rfl, rfl⟩⟩
def fGe : List D → Res := fI2 (fun _ _ => true) fun i j => .bl (decide (j ≤ i))
theorem op_geD : ∃ r, OpR X (compareOp .GtE) r ∧ OKr X (rB r) fGe := ⟨_, op_ge, okr_I0 fun _ _ => ⟨rfl, rfl⟩⟩
end
mutual
def D.py : D → PyData
  | .non => .none
  | .bl b => .bool b
  | .int i => .int i
  | .str x => .str x
  | .con .tup ds => .tuple (D.pys ds)
  | .con (.lst _) ds => .list (D.pys ds)
  | .con _ _ => .dict []
def D.pys : List D → List PyData
  | [] => []
  | d :: ds => d.py :: D.pys ds
end
section
variable {K : PySem.W.Frag} {mg : Str → Option Value} {Hs H : Hp}
mutual
def D.plain : D → Bool
  | .con .tup ds => D.plains ds
  | .con (.lst _) ds => D.plains ds
  | .con _ _ => false
  | _ => true
def D.plains : List D → Bool
  | [] => true
  | d :: ds => d.plain && D.plains ds
end
mutual
theorem vr_dp (s : Sub Hs H) : ∀ (d : D) (v : V) (F : List Addr), d.plain = true → Vr K mg Hs H d v F → Dp K H v d.py
  | .non, _, _, _, h => by
    rw [h.1]
    exact .non
  | .bl b, _, _, _, h => by
    rw [h.1]
    exact .bl b
  | .int i, _, _, _, h => by
    rw [h.1]
    exact .int i
  | .str x, _, _, _, h => by
    rw [h.1]
    exact .str x
  | .con .tup ds, v, F, p, h => by
    obtain ⟨a, us, G, e1, e2, e3, e4⟩ := h
    subst e1
    exact .tup (at_rd s e2) (vrs_dp s ds us G p e3)
  | .con (.lst m) ds, v, F, p, h => by
    obtain ⟨a, us, G, e1, e2, e3, e4⟩ := h
    subst e1
    exact .lst (at_rd s e2) (vrs_dp s ds us G p e3)
  | .con (.dic _ _) _, _, _, p, _ => by cases p
  | .con (.obj _ _ _) _, _, _, p, _ => by cases p
  | .con .hole _, _, _, p, _ => by cases p
  | .con .gone _, _, _, p, _ => by cases p
theorem vrs_dp (s : Sub Hs H) : ∀ (ds : List D) (vs : List V) (F : List Addr), D.plains ds = true → Vrs K mg Hs H ds vs F → DpAll K H vs (D.pys ds)
  | [], _, _, _, h => by
    rw [h.1]
    exact .nil
  | d :: ds, vs, F, p, h => by
    obtain ⟨v, ws, F1, F2, e1, e2, e3, e4⟩ := h
    have p' : (d.plain && D.plains ds) = true := p
    rw [Bool.and_eq_true] at p'
    subst e1
    exact .cons (vr_dp s d v F1 p'.1 e2) (vrs_dp s ds ws F2 p'.2 e3)
end
end
/-- == of scalars, where one rule tells it -/
def eqS : D → D → Option Bool
  | .non, .non => some true
  | .non, .int _ => some false
  | .int _, .non => some false
  | .non, .bl _ => some false
  | .bl _, .non => some false
  | .non, .str _ => some false
  | .str _, .non => some false
  | .int i, .int j => some (decide (i = j))
  | .bl i, .bl j => some (decide (i = j))
  | .str i, .str j => some (decide (i = j))
  | .int _, .str _ => some false
  | .str _, .int _ => some false
  | .bl _, .str _ => some false
  | .str _, .bl _ => some false
  | _, _ => none
def eqD (x y : D) : Bool := PyData.eqv x.py y.py
def shp (x : D) : Bool := x.plain && SeqAt.shaped x.py
def fEq : List D → Res
  | [x, y] => match eqS x y with
    | some b => .val (.bl b)
    | none => if (shp x && shp y) = true then .val (.bl (eqD x y)) else .bad
  | _ => .bad
def fNe : List D → Res
  | [x, y] => match eqS x y with
    | some b => .val (.bl (!b))
    | none => if (shp x && shp y) = true then .val (.bl (!eqD x y)) else .bad
  | _ => .bad
section
variable {X : Cx}
theorem eqS_ok : ∀ {x y : D} {b : Bool}, eqS x y = some b → isSc x = true ∧ isSc y = true ∧ scal (sc x) (sc y) = true ∧ decide (sc x = sc y) = b := by
  intro x y b h
  cases x <;> cases y <;> first
    | (cases h; exact ⟨rfl, rfl, rfl, rfl⟩)
    | (cases h; refine ⟨rfl, rfl, rfl, ?_⟩; exact decide_eq_false (fun q => nomatch q))
    | (cases h; refine ⟨rfl, rfl, rfl, ?_⟩; rename_i i j; by_cases e : i = j
       · subst e; rw [decide_eq_true rfl, decide_eq_true rfl]
       · rw [decide_eq_false e]; exact decide_eq_false (fun q => e (by first | exact V.int.inj q | exact V.bl.inj q | exact V.str.inj q)))
    | cases h
theorem op_eqDD (hu : X.A.units + 64 < cLine) : ∃ r, OpR X (compareOp .Eq) r ∧ OKr X (rB r) fEq := by
  refine ⟨_, OpR.or op_eq (op_eqD hu), ?_⟩
  intro Hs H xs ws Q s V q
  match xs, ws, V with
  | [x, y], [v, w], V =>
    obtain ⟨⟨F1, q1⟩, ⟨F2, q2⟩, _⟩ := V
    unfold fEq at q
    dsimp only at q
    cases h : eqS x y with
    | some b =>
      rw [h] at q
      obtain ⟨s1, s2, s3, s4⟩ := eqS_ok h
      have ev := vws_scal (xs := [x, y]) (ws := [v, w]) (K := X.K) (mg := X.mg) (Hs := Hs) (H := H) ⟨⟨F1, q1⟩, ⟨F2, q2⟩, trivial⟩ (by simp [s1, s2])
      cases ev
      refine .inl ⟨s3, ?_⟩
      rw [s4]
      exact q _ ⟨rfl, rfl⟩
    | none =>
      rw [h] at q
      dsimp only at q
      by_cases hc : (shp x && shp y) = true
      · rw [if_pos hc] at q
        simp only [shp, Bool.and_eq_true] at hc
        exact .inr ⟨x.py, y.py, vr_dp s x v F1 hc.1.1 q1, vr_dp s y w F2 hc.2.1 q2, hc.1.2, hc.2.2, q _ ⟨rfl, rfl⟩⟩
      · rw [if_neg hc] at q
        exact q.elim
  | [], [], _ => exact q.elim
  | [_], [_], _ => exact q.elim
  | _ :: _ :: _ :: _, _, _ => exact q.elim
theorem op_neDD (hu : X.A.units + 64 < cLine) : ∃ r, OpR X (compareOp .NotEq) r ∧ OKr X (rB r) fNe := by
  refine ⟨_, OpR.or op_ne (op_neD hu), ?_⟩
  intro Hs H xs ws Q s V q
  match xs, ws, V with
  | [x, y], [v, w], V =>
    obtain ⟨⟨F1, q1⟩, ⟨F2, q2⟩, _⟩ := V
    unfold fNe at q
    dsimp only at q
    cases h : eqS x y with
    | some b =>
      rw [h] at q
      obtain ⟨s1, s2, s3, s4⟩ := eqS_ok h
      have ev := vws_scal (xs := [x, y]) (ws := [v, w]) (K := X.K) (mg := X.mg) (Hs := Hs) (H := H) ⟨⟨F1, q1⟩, ⟨F2, q2⟩, trivial⟩ (by simp [s1, s2])
      cases ev
      refine .inl ⟨s3, ?_⟩
      rw [s4]
      exact q _ ⟨rfl, rfl⟩
    | none =>
      rw [h] at q
      dsimp only at q
      by_cases hc : (shp x && shp y) = true
      · rw [if_pos hc] at q
        simp only [shp, Bool.and_eq_true] at hc
        exact .inr ⟨x.py, y.py, vr_dp s x v F1 hc.1.1 q1, vr_dp s y w F2 hc.2.1 q2, hc.1.2, hc.2.2, q _ ⟨rfl, rfl⟩⟩
      · rw [if_neg hc] at q
        exact q.elim
  | [], [], _ => exact q.elim
  | [_], [_], _ => exact q.elim
  | _ :: _ :: _ :: _, _, _ => exact q.elim
/-- is None, is not None -/
def isNon : D → Bool
  | .non => true
  | _ => false
def fIsN : List D → Res
  | [x] => .val (.bl (isNon x))
  | _ => .bad
def fNotN : List D → Res
  | [x] => .val (.bl (!isNon x))
  | _ => .bad
theorem isNon_ok {K : PySem.W.Frag} {mg : Str → Option Value} {Hs H : Hp} {x : D} {v : V} {F : List Addr} (h : Vr K mg Hs H x v F) : decide (v = .non) = isNon x := by
  cases x with
  | non => rw [h.1]; rfl
  | bl b => rw [h.1]; exact decide_eq_false (fun q => nomatch q)
  | int b => rw [h.1]; exact decide_eq_false (fun q => nomatch q)
  | str b => rw [h.1]; exact decide_eq_false (fun q => nomatch q)
  | con k es =>
    obtain ⟨a, us, G, e1, _⟩ := h
    rw [e1]
    exact decide_eq_false (fun q => nomatch q)
theorem de_isN {W : WX} {a : Expr} {oa : Opd} {j : Nat} {p2 pos : Pos} (ha : DO X W a oa) : DE X W (.Compare a [.Is] [.Constant .none j p2] pos) (mOp fIsN [oa]) :=
  de_op (es := [a]) (os := [oa]) (r := fun ws H Q => match ws with
    | [x] => Q (.bl (decide (x = .non))) H
    | _ => False) ⟨ha, trivial⟩ (fun ts h => match ts, h with
    | [t1], h => pe_cmp (pc_isN h.1) (nobehind _ (by decide) (by decide))) fun Hs H xs ws Q s V q => by
      match xs, ws, V with
      | [x], [v], V =>
        obtain ⟨⟨F, q1⟩, _⟩ := V
        show Q (.bl (decide (v = .non))) H
        rw [isNon_ok q1]
        exact q _ ⟨rfl, rfl⟩
      | [], [], _ => exact q.elim
      | _ :: _ :: _, _, _ => exact q.elim
theorem de_notN {W : WX} {a : Expr} {oa : Opd} {j : Nat} {p2 pos : Pos} (ha : DO X W a oa) : DE X W (.Compare a [.IsNot] [.Constant .none j p2] pos) (mOp fNotN [oa]) :=
  de_op (es := [a]) (os := [oa]) (r := fun ws H Q => match ws with
    | [x] => Q (.bl (!decide (x = .non))) H
    | _ => False) ⟨ha, trivial⟩ (fun ts h => match ts, h with
    | [t1], h => pe_cmp (pc_notN h.1) (nobehind _ (by decide) (by decide))) fun Hs H xs ws Q s V q => by
      match xs, ws, V with
      | [x], [v], V =>
        obtain ⟨⟨F, q1⟩, _⟩ := V
        show Q (.bl (!decide (v = .non))) H
        rw [isNon_ok q1]
        exact q _ ⟨rfl, rfl⟩
      | [], [], _ => exact q.elim
      | _ :: _ :: _, _, _ => exact q.elim
/-- as tests -/
theorem dt_of_cmp {W : WX} {a b : Expr} {op : CmpOp} {pos : Pos} {m : M} (h : DE X W (.Compare a [op] [b] pos) m) : DE X W (.Compare a [op] [b] pos) m := h
end
end DN

/-! Dn8: built-ins, methods, places, chains. -/
namespace DN
open PySem PySem.Spec PyProof.Rows L2

def noStar : Expr → Bool
  | .Starred _ _ => false
  | _ => true
theorem star_of : ∀ {e : Expr}, noStar e = true → ∀ (r : List Expr) (env : PySem.Env), starEach (e :: r) env = (false, eval e env) :: starEach r env := by
  intro e h r env
  cases e <;> first | rfl | cases h
section
variable {X : Cx} {W : WX}
theorem star_all {es : List Expr} (h : es.all noStar = true) : ∀ e ∈ es, ∀ r, starEach (e :: r) X.env = (false, eval e X.env) :: starEach r X.env := fun e he r => star_of (List.all_eq_true.mp h e he) r X.env
theorem de_callB {x : Str} {id : String} {p pos : Pos} {e : Expr} {es : List Expr} {os : List Opd} {r : List V → Hp → VK → Prop} {f : List D → Res} (hc : CallR X (.builtin id) r) (hf : OKr X r f) (hg : Gl X x) (hm : X.mg x = none) (hv : bootBuiltins x = some (.builtin id)) (ha : DOs X W (e :: es) os)
    (hst : (e :: es).all noStar = true := by rfl) (hn : x ≠ "__name__" := by decide) (hdb : (x == ("__debug__" : Str)) = false := by decide) (hpl : (backTo pos (starEach es X.env)).any (·.1) = false := by rfl) : DE X W (.Call (.Name x p) (e :: es) [] pos) (mOp f os) :=
  de_op ha (fun ts h => pe_callB hc hg hm hv (pa_args h (star_all hst)) hn hdb (star_all hst e List.mem_cons_self es) hpl) hf
theorem de_callTy {x : Str} {T : String} {p pos : Pos} {e : Expr} {es : List Expr} {os : List Opd} {r : List V → Hp → VK → Prop} {f : List D → Res} (hc : CallR X (.type T) r) (hf : OKr X r f) (hg : Gl X x) (hm : X.mg x = none) (hv : bootBuiltins x = some (.type T)) (ha : DOs X W (e :: es) os)
    (hst : (e :: es).all noStar = true := by rfl) (hn : x ≠ "__name__" := by decide) (hdb : (x == ("__debug__" : Str)) = false := by decide) (hpl : (backTo pos (starEach es X.env)).any (·.1) = false := by rfl) : DE X W (.Call (.Name x p) (e :: es) [] pos) (mOp f os) :=
  de_op ha (fun ts h => pe_callTy hc hg hm hv (pa_args h (star_all hst)) hn hdb (star_all hst e List.mem_cons_self es) hpl) hf
end
/-! ### isinstance of built-in classes -/
def typeD : D → Option String
  | .non => some "NoneType"
  | .bl _ => some "bool"
  | .int _ => some "int"
  | .str _ => some "str"
  | .con .tup _ => some "tuple"
  | .con (.lst _) _ => some "list"
  | .con (.dic .own _) _ => some "dict"
  | .con (.dic .sh _) _ => some "dict"
  | _ => none
inductive BT where
  | int | bool | str | list | tuple | dict
def BT.name : BT → String
  | .int => "int" | .bool => "bool" | .str => "str" | .list => "list" | .tuple => "tuple" | .dict => "dict"
def isTy : D → BT → Option Bool
  | .non, _ => some false
  | .bl _, .int => some true
  | .bl _, .bool => some true
  | .bl _, _ => some false
  | .int _, .int => some true
  | .int _, _ => some false
  | .str _, .str => some true
  | .str _, _ => some false
  | .con .tup _, .tuple => some true
  | .con .tup _, _ => some false
  | .con (.lst _) _, .list => some true
  | .con (.lst _) _, _ => some false
  | .con (.dic .own _) _, .dict => some true
  | .con (.dic .own _) _, _ => some false
  | .con (.dic .sh _) _, .dict => some true
  | .con (.dic .sh _) _, _ => some false
  | _, _ => none
theorem isTy_kit : ∀ {d : D} {t : BT} {b : Bool}, isTy d t = some b → ∃ n, typeD d = some n ∧ kitB n t.name = some b := by
  intro d t b h
  cases d with
  | non => exact ⟨_, rfl, by cases t <;> (cases h; decide +kernel)⟩
  | bl x => exact ⟨_, rfl, by cases t <;> (cases h; decide +kernel)⟩
  | int x => exact ⟨_, rfl, by cases t <;> (cases h; decide +kernel)⟩
  | str x => exact ⟨_, rfl, by cases t <;> (cases h; decide +kernel)⟩
  | con k es =>
    cases k with
    | tup => exact ⟨_, rfl, by cases t <;> (cases h; decide +kernel)⟩
    | lst m => exact ⟨_, rfl, by cases t <;> (cases h; decide +kernel)⟩
    | dic m ks =>
      cases m with
      | own => exact ⟨_, rfl, by cases t <;> (cases h; decide +kernel)⟩
      | sh => exact ⟨_, rfl, by cases t <;> (cases h; decide +kernel)⟩
      | fz => cases h
    | obj m c fs => cases h
    | hole => cases h
    | gone => cases h
theorem tyx_of {K : PySem.W.Frag} {mg : Str → Option Value} {Hs H : Hp} (s : Sub Hs H) : ∀ {d : D} {v : V} {F : List Addr} {n : String}, Vr K mg Hs H d v F → typeD d = some n → TyX K H v (.type n) := by
  intro d v F n h e
  cases d with
  | non => cases e; rw [h.1]; exact .base .non
  | bl x => cases e; rw [h.1]; exact .base (.bl x)
  | int x => cases e; rw [h.1]; exact .base (.int x)
  | str x => cases e; rw [h.1]; exact .base (.str x)
  | con k es =>
    obtain ⟨a, us, G, e1, e2, e3, e4⟩ := h
    subst e1
    cases k with
    | tup =>
      cases e
      rcases e2 with (q | ⟨o, q⟩) | ⟨o, its, n, q, c, _⟩
      · exact .base (.tup q)
      · exact .fTuple q
      · exact .kTuple q c
    | lst m =>
      cases e
      rcases (show SqL K H a us from at_rd s e2) with (q | ⟨o, q⟩) | ⟨o, its, n, q, c, _⟩
      · exact .base (.lst q)
      · exact .base (.frz q)
      · exact .kList q c
    | dic m ks =>
      cases m with
      | own => cases e; exact .base (.dK e2.2)
      | sh => cases e; exact .base (.dK (s _ _ e2.2))
      | fz => cases e
    | obj m c fs => cases e
    | hole => cases e
    | gone => cases e
def fIsi (t : BT) : List D → Res
  | [d] => match isTy d t with
    | some b => .val (.bl b)
    | none => .bad
  | _ => .bad
section
variable {X : Cx} {W : WX}
theorem de_isi {p p2 pos : Pos} {a : Expr} {oa : Opd} {x : Str} (t : BT) (hi : Gl X "isinstance") (hm : X.mg "isinstance" = none) (hx : Gl X x) (hmx : X.mg x = none) (hvx : bootBuiltins x = some (.type t.name)) (ha : DO X W a oa) (hst : noStar a = true := by rfl)
    (hnx : x ≠ "__name__" := by decide) (hdx : (x == ("__debug__" : Str)) = false := by decide) : DE X W (.Call (.Name "isinstance" p) [a, .Name x p2] [] pos) (mOp (fIsi t) [oa]) :=
  de_op (es := [a]) (os := [oa]) (r := fun ws H Q => match ws with
    | [v] => rIsi X.K [v, .ty t.name] H Q
    | _ => False) ⟨ha, trivial⟩ (fun ts h => match ts, h with
    | [t1], h => pe_callB call_isi hi hm (by decide +kernel) (pa_cons h.1 (pa_cons (pe_bltn (v := .ty t.name) hx hmx hvx (show RelV (.ty t.name) (.type t.name) from rfl) hnx hdx) pa_nil rfl) (star_of hst _ _)) (by decide) (by decide) (star_of hst _ _) rfl) fun Hs H xs ws Q s V q => by
      match xs with
      | [] => exact q.elim
      | _ :: _ :: _ => exact q.elim
      | [d] =>
        obtain ⟨v, rfl, F, hv⟩ := vws1 V
        unfold fIsi at q
        dsimp only at q
        cases h : isTy d t with
        | none =>
          rw [h] at q
          exact q.elim
        | some b =>
          rw [h] at q
          obtain ⟨n, e1, e2⟩ := isTy_kit h
          exact ⟨v, .ty t.name, .type n, .type t.name, b, rfl, .ty _, tyx_of s hv e1, kit_ty e2, q _ ⟨rfl, rfl⟩⟩
/-! ### built-ins -/
def lenD : D → Option Nat
  | .str x => if x.length ≤ sizeLine then some x.length else none
  | .con .tup es => some es.length
  | .con (.lst _) es => some es.length
  | _ => none
def fLen : List D → Res
  | [d] => match lenD d with
    | some n => .val (.int (n : Int))
    | none => .bad
  | _ => .bad
theorem okr_len : OKr X (fun xs H Q => ∃ x n, xs = [x] ∧ LenV X.K x H n ∧ Q (.int (n : Nat)) H) fLen := by
  intro Hs H xs ws Q s V q
  match xs with
  | [] => exact q.elim
  | _ :: _ :: _ => exact q.elim
  | [d] =>
    obtain ⟨v, rfl, F, hv⟩ := vws1 V
    unfold fLen at q
    dsimp only at q
    cases h : lenD d with
    | none =>
      rw [h] at q
      exact q.elim
    | some n =>
      rw [h] at q
      refine ⟨v, n, rfl, ?_, q _ ⟨rfl, rfl⟩⟩
      cases d with
      | non => cases h
      | bl b => cases h
      | int i => cases h
      | str x =>
        rw [hv.1]
        have h' : (if x.length ≤ sizeLine then some x.length else none) = some n := h
        by_cases hz : x.length ≤ sizeLine
        · rw [if_pos hz] at h'
          cases h'
          exact ⟨hz, rfl⟩
        · rw [if_neg hz] at h'
          cases h'
      | con k es =>
        obtain ⟨a, us, G, e1, e2, e3, e4⟩ := hv
        subst e1
        cases k with
        | tup =>
          cases h
          exact .inr ⟨us, at_rd s e2, (vrs_len e3).symm⟩
        | lst m =>
          cases h
          exact .inl ⟨us, at_rd s e2, (vrs_len e3).symm⟩
        | dic m ks => cases h
        | obj m c fs => cases h
        | hole => cases h
        | gone => cases h
theorem de_len {p pos : Pos} {a : Expr} {oa : Opd} (hg : Gl X "len") (hm : X.mg "len" = none) (ha : DO X W a oa) (hst : [a].all noStar = true := by rfl) : DE X W (.Call (.Name "len" p) [a] [] pos) (mOp fLen [oa]) :=
  de_callB (es := []) call_len okr_len hg hm (by decide +kernel) ⟨ha, trivial⟩ hst (by decide) (by decide) rfl
/-- a list's ints, truths, texts -/
def intsD : List D → Option (List Int)
  | [] => some []
  | .int i :: ds => (intsD ds).map fun l => i :: l
  | _ => none
def blsD : List D → Option (List Bool)
  | [] => some []
  | .bl i :: ds => (blsD ds).map fun l => i :: l
  | _ => none
def strsD : List D → Option (List Str)
  | [] => some []
  | .str i :: ds => (strsD ds).map fun l => i :: l
  | _ => none
theorem intsD_eq : ∀ {ds : List D} {l : List Int}, intsD ds = some l → ds = l.map .int
  | [], l, h => by
    cases h
    rfl
  | .int i :: ds, l, h => by
    unfold intsD at h
    cases e : intsD ds with
    | none =>
      rw [e] at h
      cases h
    | some r =>
      rw [e] at h
      cases h
      rw [intsD_eq e]
      rfl
  | .non :: _, _, h => by cases h
  | .bl _ :: _, _, h => by cases h
  | .str _ :: _, _, h => by cases h
  | .con _ _ :: _, _, h => by cases h
theorem blsD_eq : ∀ {ds : List D} {l : List Bool}, blsD ds = some l → ds = l.map .bl
  | [], l, h => by
    cases h
    rfl
  | .bl i :: ds, l, h => by
    unfold blsD at h
    cases e : blsD ds with
    | none =>
      rw [e] at h
      cases h
    | some r =>
      rw [e] at h
      cases h
      rw [blsD_eq e]
      rfl
  | .non :: _, _, h => by cases h
  | .int _ :: _, _, h => by cases h
  | .str _ :: _, _, h => by cases h
  | .con _ _ :: _, _, h => by cases h
theorem strsD_eq : ∀ {ds : List D} {l : List Str}, strsD ds = some l → ds = l.map .str
  | [], l, h => by
    cases h
    rfl
  | .str i :: ds, l, h => by
    unfold strsD at h
    cases e : strsD ds with
    | none =>
      rw [e] at h
      cases h
    | some r =>
      rw [e] at h
      cases h
      rw [strsD_eq e]
      rfl
  | .non :: _, _, h => by cases h
  | .int _ :: _, _, h => by cases h
  | .bl _ :: _, _, h => by cases h
  | .con _ _ :: _, _, h => by cases h
theorem intsD_map (l : List Int) : intsD (l.map .int) = some l := by
  induction l with
  | nil => rfl
  | cons i l ih =>
    show (intsD (l.map .int)).map (fun r => i :: r) = some (i :: l)
    rw [ih]
    rfl
theorem blsD_map (l : List Bool) : blsD (l.map .bl) = some l := by
  induction l with
  | nil => rfl
  | cons i l ih =>
    show (blsD (l.map .bl)).map (fun r => i :: r) = some (i :: l)
    rw [ih]
    rfl
theorem strsD_map (l : List Str) : strsD (l.map .str) = some l := by
  induction l with
  | nil => rfl
  | cons i l ih =>
    show (strsD (l.map .str)).map (fun r => i :: r) = some (i :: l)
    rw [ih]
    rfl
/-- a list | a list or a tuple -/
def lst1 : List D → Option (List D)
  | [.con (.lst _) es] => some es
  | _ => none
def seq1 : List D → Option (List D)
  | [.con (.lst _) es] => some es
  | [.con .tup es] => some es
  | _ => none
theorem lst1_eq : ∀ {l es : List D}, lst1 l = some es → ∃ m, l = [.con (.lst m) es]
  | [.con (.lst m) _], _, rfl => ⟨m, rfl⟩
theorem all_sc_ints (l : List Int) : (l.map D.int).all isSc = true := by induction l <;> simp_all [isSc]
theorem all_sc_bls (l : List Bool) : (l.map D.bl).all isSc = true := by induction l <;> simp_all [isSc]
theorem all_sc_strs (l : List Str) : (l.map D.str).all isSc = true := by induction l <;> simp_all [isSc]
theorem map_sc_ints (l : List Int) : (l.map D.int).map sc = l.map V.int := by rw [List.map_map]; rfl
theorem map_sc_bls (l : List Bool) : (l.map D.bl).map sc = l.map V.bl := by rw [List.map_map]; rfl
theorem map_sc_strs (l : List Str) : (l.map D.str).map sc = l.map V.str := by rw [List.map_map]; rfl
def fSum : List D → Res := fun xs => match (lst1 xs).bind intsD with
  | some l => .val (.int l.sum)
  | none => .bad
theorem lst_view {K : PySem.W.Frag} {mg : Str → Option Value} {Hs H : Hp} {xs es : List D} {ws : List V} (s : Sub Hs H) (V : Vws K mg Hs H xs ws) (h : lst1 xs = some es) : ∃ a us G, ws = [.ref a] ∧ SqL K H a us ∧ Vrs K mg Hs H es us G := by
  obtain ⟨m, rfl⟩ := lst1_eq h
  obtain ⟨v, rfl, F, hv⟩ := vws1 V
  obtain ⟨a, us, G, e1, e2, e3⟩ := vr_seq s hv
  subst e1
  exact ⟨a, us, G, rfl, e2, e3⟩
theorem okr_sum : OKr X (rSum X.K) fSum := by
  intro Hs H xs ws Q s V q
  unfold fSum at q
  cases h : lst1 xs with
  | none =>
    rw [h] at q
    exact q.elim
  | some es =>
    cases h2 : intsD es with
    | none =>
      rw [h, Option.bind_some, h2] at q
      exact q.elim
    | some l =>
      rw [h, Option.bind_some, h2] at q
      obtain ⟨a, us, G, rfl, e2, e3⟩ := lst_view s V h
      have e := intsD_eq h2
      subst e
      have eu := vrs_scal e3 (all_sc_ints l)
      rw [map_sc_ints] at eu
      subst eu
      exact ⟨a, l, rfl, e2, q _ ⟨rfl, rfl⟩⟩
theorem de_sum {p pos : Pos} {a : Expr} {oa : Opd} (hc : X.calm = true) (hg : Gl X "sum") (hm : X.mg "sum" = none) (ha : DO X W a oa) (hst : [a].all noStar = true := by rfl) : DE X W (.Call (.Name "sum" p) [a] [] pos) (mOp fSum [oa]) :=
  de_callB (es := []) (cr_sum hc) okr_sum hg hm (by decide +kernel) ⟨ha, trivial⟩ hst (by decide) (by decide) rfl
def fAll : List D → Res := fun xs => match (lst1 xs).bind blsD with
  | some l => .val (.bl (l.all id))
  | none => .bad
theorem okr_all : OKr X (rAll X.K) fAll := by
  intro Hs H xs ws Q s V q
  unfold fAll at q
  cases h : lst1 xs with
  | none =>
    rw [h] at q
    exact q.elim
  | some es =>
    cases h2 : blsD es with
    | none =>
      rw [h, Option.bind_some, h2] at q
      exact q.elim
    | some l =>
      rw [h, Option.bind_some, h2] at q
      obtain ⟨a, us, G, rfl, e2, e3⟩ := lst_view s V h
      have e := blsD_eq h2
      subst e
      have eu := vrs_scal e3 (all_sc_bls l)
      rw [map_sc_bls] at eu
      subst eu
      exact ⟨a, l, rfl, e2, q _ ⟨rfl, rfl⟩⟩
theorem de_all {p pos : Pos} {a : Expr} {oa : Opd} (hc : X.calm = true) (hg : Gl X "all") (hm : X.mg "all" = none) (ha : DO X W a oa) (hst : [a].all noStar = true := by rfl) : DE X W (.Call (.Name "all" p) [a] [] pos) (mOp fAll [oa]) :=
  de_callB (es := []) (cr_all hc) okr_all hg hm (by decide +kernel) ⟨ha, trivial⟩ hst (by decide) (by decide) rfl
def fAny : List D → Res := fun xs => match (lst1 xs).bind blsD with
  | some l => .val (.bl (l.any id))
  | none => .bad
theorem okr_any : OKr X (rAny X.K) fAny := by
  intro Hs H xs ws Q s V q
  unfold fAny at q
  cases h : lst1 xs with
  | none =>
    rw [h] at q
    exact q.elim
  | some es =>
    cases h2 : blsD es with
    | none =>
      rw [h, Option.bind_some, h2] at q
      exact q.elim
    | some l =>
      rw [h, Option.bind_some, h2] at q
      obtain ⟨a, us, G, rfl, e2, e3⟩ := lst_view s V h
      have e := blsD_eq h2
      subst e
      have eu := vrs_scal e3 (all_sc_bls l)
      rw [map_sc_bls] at eu
      subst eu
      exact ⟨a, l, rfl, e2, q _ ⟨rfl, rfl⟩⟩
theorem de_any {p pos : Pos} {a : Expr} {oa : Opd} (hc : X.calm = true) (hg : Gl X "any") (hm : X.mg "any" = none) (ha : DO X W a oa) (hst : [a].all noStar = true := by rfl) : DE X W (.Call (.Name "any" p) [a] [] pos) (mOp fAny [oa]) :=
  de_callB (es := []) (cr_any hc) okr_any hg hm (by decide +kernel) ⟨ha, trivial⟩ hst (by decide) (by decide) rfl
/-- str(n) -/
def fStr : List D → Res
  | [.int i] => if i.natAbs.log2 < 1920 then .val (.str (toString i)) else .bad
  | _ => .bad
theorem okr_str : OKr X (fun xs H Q => ∃ i : Int, xs = [.int i] ∧ i.natAbs.log2 < 1920 ∧ Q (.str (toString i)) H) fStr := by
  intro Hs H xs ws Q s V q
  unfold fStr at q
  split at q
  · rename_i i
    by_cases hz : i.natAbs.log2 < 1920
    · rw [if_pos hz] at q
      have e := vws_scal V rfl
      subst e
      exact ⟨i, rfl, hz, q _ ⟨rfl, rfl⟩⟩
    · rw [if_neg hz] at q
      exact q.elim
  · exact q.elim
theorem de_str1 {p pos : Pos} {a : Expr} {oa : Opd} (hg : Gl X "str") (hm : X.mg "str" = none) (ha : DO X W a oa) (hst : [a].all noStar = true := by rfl) : DE X W (.Call (.Name "str" p) [a] [] pos) (mOp fStr [oa]) :=
  de_callTy (es := []) call_str_int okr_str hg hm (by decide +kernel) ⟨ha, trivial⟩ hst (by decide) (by decide) rfl
/-- int(n), int(flag), int(text) -/
def fInt : List D → Res
  | [.int i] => .val (.int i)
  | [.bl b] => .val (.int (if b then 1 else 0))
  | [.str x] => match PySem.intText? x with
    | some n => if x.length ≤ 640 then .val (.int n) else .bad
    | none => .bad
  | _ => .bad
theorem okr_int : OKr X (fun xs H Q => ((∃ i, xs = [.int i] ∧ Q (.int i) H) ∨ ∃ k, xs = [.bl k] ∧ Q (.int (if k then 1 else 0)) H) ∨ ∃ a n, xs = [.str a] ∧ PySem.intText? a = some n ∧ a.length ≤ 640 ∧ Q (.int n) H) fInt := by
  intro Hs H xs ws Q s V q
  unfold fInt at q
  split at q
  · have e := vws_scal V rfl
    subst e
    exact .inl (.inl ⟨_, rfl, q _ ⟨rfl, rfl⟩⟩)
  · have e := vws_scal V rfl
    subst e
    exact .inl (.inr ⟨_, rfl, q _ ⟨rfl, rfl⟩⟩)
  · rename_i x
    have e := vws_scal V rfl
    subst e
    cases h : PySem.intText? x with
    | none =>
      rw [h] at q
      exact q.elim
    | some n =>
      rw [h] at q
      dsimp only at q
      by_cases hz : x.length ≤ 640
      · rw [if_pos hz] at q
        exact .inr ⟨x, n, rfl, h, hz, q _ ⟨rfl, rfl⟩⟩
      · rw [if_neg hz] at q
        exact q.elim
  · exact q.elim
theorem de_int1 {p pos : Pos} {a : Expr} {oa : Opd} (hg : Gl X "int") (hm : X.mg "int" = none) (ha : DO X W a oa) (hst : [a].all noStar = true := by rfl) : DE X W (.Call (.Name "int" p) [a] [] pos) (mOp fInt [oa]) :=
  de_callTy (es := []) (CallR.or call_int1 call_int_str) okr_int hg hm (by decide +kernel) ⟨ha, trivial⟩ hst (by decide) (by decide) rfl
/-! ### places -/
def atD (es : List D) (i : Int) : Option D := atI es i
def fIx : List D → Res
  | [.con .tup es, .int i] => match atI es i with
    | some d => if d.pure = true then .val d else .bad
    | none => .bad
  | [.con (.lst _) es, .int i] => match atI es i with
    | some d => if d.pure = true then .val d else .bad
    | none => .bad
  | [.str z, .int i] => if z.length ≤ sizeLine then (match atI z.cps.toList i with
    | some c => .val (.str ⟨#[c]⟩)
    | none => .bad) else .bad
  | _ => .bad
theorem atI_vrs {K : PySem.W.Frag} {mg : Str → Option Value} {Hs H : Hp} {es : List D} {us : List V} {G : List Addr} {i : Int} {d : D} (h : Vrs K mg Hs H es us G) (e : atI es i = some d) : ∃ v Gd, atI us i = some v ∧ Vr K mg Hs H d v Gd := by
  unfold atI at e ⊢
  rw [vrs_len h]
  cases hi : ixN es.length i with
  | none =>
    rw [hi] at e
    cases e
  | some j =>
    rw [hi] at e
    obtain ⟨v, Gd, h1, h2, _⟩ := vrs_get h e
    exact ⟨v, Gd, h1, h2⟩
theorem okr_ix : OKr X (rB (rIx X.K)) fIx := by
  intro Hs H xs ws Q s V q
  unfold fIx at q
  split at q
  · rename_i es i
    obtain ⟨v, w, rfl, ⟨F, hv⟩, ⟨F2, hw⟩⟩ := vws2 V
    obtain ⟨a, us, G, e1, e2, e3⟩ := vr_seq s hv
    have ew := hw.1
    subst e1
    subst ew
    cases h : atI es i with
    | none =>
      rw [h] at q
      exact q.elim
    | some d =>
      rw [h] at q
      dsimp only at q
      by_cases hp : d.pure = true
      · rw [if_pos hp] at q
        obtain ⟨x, Gd, x1, x2⟩ := atI_vrs e3 h
        have := vr_pure _ _ _ hp x2
        subst this
        exact .inr (.inl ⟨a, us, i, x, rfl, rfl, e2, x1, q x x2⟩)
      · rw [if_neg hp] at q
        exact q.elim
  · rename_i m es i
    obtain ⟨v, w, rfl, ⟨F, hv⟩, ⟨F2, hw⟩⟩ := vws2 V
    obtain ⟨a, us, G, e1, e2, e3⟩ := vr_seq s hv
    have ew := hw.1
    subst e1
    subst ew
    cases h : atI es i with
    | none =>
      rw [h] at q
      exact q.elim
    | some d =>
      rw [h] at q
      dsimp only at q
      by_cases hp : d.pure = true
      · rw [if_pos hp] at q
        obtain ⟨x, Gd, x1, x2⟩ := atI_vrs e3 h
        have := vr_pure _ _ _ hp x2
        subst this
        exact .inl ⟨a, us, i, x, rfl, rfl, e2, x1, q x x2⟩
      · rw [if_neg hp] at q
        exact q.elim
  · rename_i z i
    have e := vws_scal V rfl
    subst e
    by_cases hz : z.length ≤ sizeLine
    · rw [if_pos hz] at q
      cases h : atI z.cps.toList i with
      | none =>
        rw [h] at q
        exact q.elim
      | some c =>
        rw [h] at q
        exact .inr (.inr ⟨z, i, c, rfl, rfl, hz, h, q _ ⟨rfl, rfl⟩⟩)
    · rw [if_neg hz] at q
      exact q.elim
  · exact q.elim
def noSlice : Expr → Bool
  | .Slice .. => false
  | _ => true
theorem plainIx : ∀ {b : Expr}, noSlice b = true → PlainIx b := by
  intro b h
  cases b <;> first | (intro _ _; rfl) | cases h
theorem de_ix {a b : Expr} {oa ob : Opd} {pos : Pos} (ha : DO X W a oa) (hb : DO X W b ob) (hs : noSlice b = true := by rfl) : DE X W (.Subscript a b pos) (mOp fIx [oa, ob]) :=
  de_op (es := [a, b]) (os := [oa, ob]) ⟨ha, hb, trivial⟩ (fun ts h => match ts, h with
    | [t1, t2], h => pe_ix ix_seq h.1 h.2.1 (plainIx hs)) okr_ix
/-! ### in, not in -/
def eqVD (x y : D) : Bool := eqV (sc x) (sc y)
def inD (x : D) (es : List D) : Bool := inV (sc x) (es.map sc)
/-- what is looked for in a list or a tuple of flat things -/
def inSeq : List D → Option (D × List D)
  | [x, .con .tup es] => if (isSc x && es.all isSc) = true then some (x, es) else none
  | [x, .con (.lst _) es] => if (isSc x && es.all isSc) = true then some (x, es) else none
  | _ => none
/-- one sign in a text, else a text in a text -/
def inTxt (a b : Str) : Bool := match a.cps.toList with
  | [c] => decide (c ∈ b.cps.toList)
  | _ => !(Builtin.Str.occurrences b a 0 b.length 1).isEmpty
def inAny (xs : List D) : Option Bool := match str2 xs with
  | some (a, b) => some (inTxt a b)
  | none => (inSeq xs).map fun (x, es) => inD x es
def fIn (neg : Bool) : List D → Res := fun xs => match inAny xs with
  | some b => .val (.bl (if neg then !b else b))
  | none => .bad
theorem flat_sc : ∀ {d : D}, isSc d = true → flatV (sc d) = true
  | .non, _ => rfl
  | .bl _, _ => rfl
  | .int _, _ => rfl
  | .str _, _ => rfl
theorem flat_scs {es : List D} (h : es.all isSc = true) : (es.map sc).all flatV = true := by
  induction es with
  | nil => rfl
  | cons d es ih =>
    rw [List.all_cons, Bool.and_eq_true] at h
    rw [List.map_cons, List.all_cons, flat_sc h.1, ih h.2]
    rfl
theorem in_view {K : PySem.W.Frag} {mg : Str → Option Value} {Hs H : Hp} (s : Sub Hs H) : ∀ {xs : List D} {ws : List V} {x : D} {es : List D}, Vws K mg Hs H xs ws → inSeq xs = some (x, es) → ∃ p, ws = [sc x, .ref p] ∧ (SqL K H p (es.map sc) ∨ SqT K H p (es.map sc)) ∧ isSc x = true ∧ es.all isSc = true := by
  intro xs ws x es V h
  match xs, h with
  | [x0, .con .tup es0], h =>
    have h' : (if (isSc x0 && es0.all isSc) = true then some (x0, es0) else none) = some (x, es) := h
    by_cases hc : (isSc x0 && es0.all isSc) = true
    · rw [if_pos hc] at h'
      cases h'
      rw [Bool.and_eq_true] at hc
      obtain ⟨v, w, rfl, ⟨F, hv⟩, ⟨F2, hw⟩⟩ := vws2 V
      obtain ⟨a, us, G, e1, e2, e3⟩ := vr_seq s hw
      subst e1
      have eu := vrs_scal e3 hc.2
      subst eu
      have ev := vws_scal (xs := [x]) (ws := [v]) (K := K) (mg := mg) (Hs := Hs) (H := H) ⟨⟨F, hv⟩, trivial⟩ (by simp [hc.1])
      cases ev
      exact ⟨a, rfl, .inr e2, hc.1, hc.2⟩
    · rw [if_neg hc] at h'
      cases h'
  | [x0, .con (.lst m) es0], h =>
    have h' : (if (isSc x0 && es0.all isSc) = true then some (x0, es0) else none) = some (x, es) := h
    by_cases hc : (isSc x0 && es0.all isSc) = true
    · rw [if_pos hc] at h'
      cases h'
      rw [Bool.and_eq_true] at hc
      obtain ⟨v, w, rfl, ⟨F, hv⟩, ⟨F2, hw⟩⟩ := vws2 V
      obtain ⟨a, us, G, e1, e2, e3⟩ := vr_seq s hw
      subst e1
      have eu := vrs_scal e3 hc.2
      subst eu
      have ev := vws_scal (xs := [x]) (ws := [v]) (K := K) (mg := mg) (Hs := Hs) (H := H) ⟨⟨F, hv⟩, trivial⟩ (by simp [hc.1])
      cases ev
      exact ⟨a, rfl, .inl e2, hc.1, hc.2⟩
    · rw [if_neg hc] at h'
      cases h'
theorem okr_in (neg : Bool) : OKr X (rB fun x y H Q => (∃ i j, x = .str i ∧ y = .str j ∧ Q (.bl (if neg then !inTxt i j else inTxt i j)) H) ∨ rIn X.K neg x y H Q) (fIn neg) := by
  intro Hs H xs ws Q s V q
  unfold fIn at q
  cases h : inAny xs with
  | none =>
    rw [h] at q
    exact q.elim
  | some b =>
    rw [h] at q
    dsimp only at q
    unfold inAny at h
    cases h2 : str2 xs with
    | some n =>
      obtain ⟨a, c⟩ := n
      rw [h2] at h
      cases h
      have e := str2_eq h2
      subst e
      have ew := vws_scal V rfl
      subst ew
      exact .inl ⟨a, c, rfl, rfl, q _ ⟨rfl, rfl⟩⟩
    | none =>
      rw [h2] at h
      dsimp only at h
      cases h3 : inSeq xs with
      | none =>
        rw [h3] at h
        cases h
      | some n =>
        obtain ⟨x, es⟩ := n
        rw [h3] at h
        cases h
        obtain ⟨p, rfl, e2, e3, e4⟩ := in_view s V h3
        exact .inr ⟨p, es.map sc, rfl, e2, flat_sc e3, flat_scs e4, q _ ⟨rfl, rfl⟩⟩
theorem op_inT : OpR X (compareOp .In) (fun x y H Q => ∃ i j, x = .str i ∧ y = .str j ∧ Q (.bl (inTxt i j)) H) := by
  intro pins s σ H x y v u Q I rx ry h
  obtain ⟨i, j, rfl, rfl, q⟩ := h
  unfold inTxt at q
  split at q
  · rename_i c hc
    have : i = ⟨#[c]⟩ := by
      cases i with
      | mk a =>
        congr 1
        apply Array.ext'
        exact hc
    subst this
    exact op_in_sign pins s σ H _ _ v u Q I rx ry ⟨c, j, rfl, rfl, q⟩
  · exact op_in_str pins s σ H _ _ v u Q I rx ry ⟨i, j, rfl, rfl, q⟩
theorem op_notInT : OpR X (compareOp .NotIn) (fun x y H Q => ∃ i j, x = .str i ∧ y = .str j ∧ Q (.bl (!inTxt i j)) H) := by
  intro pins s σ H x y v u Q I rx ry h
  obtain ⟨i, j, rfl, rfl, q⟩ := h
  unfold inTxt at q
  split at q
  · rename_i c hc
    have : i = ⟨#[c]⟩ := by
      cases i with
      | mk a =>
        congr 1
        apply Array.ext'
        exact hc
    subst this
    exact op_notIn_sign pins s σ H _ _ v u Q I rx ry ⟨c, j, rfl, rfl, q⟩
  · exact op_notIn_str pins s σ H _ _ v u Q I rx ry ⟨i, j, rfl, rfl, q⟩
theorem op_inD : ∃ r, OpR X (compareOp .In) r ∧ OKr X (rB r) (fIn false) := ⟨_, OpR.or op_inT op_in_seq, okr_in false⟩
theorem op_notInD : ∃ r, OpR X (compareOp .NotIn) r ∧ OKr X (rB r) (fIn true) := ⟨_, OpR.or op_notInT op_notIn_seq, okr_in true⟩
/-! ### the operators in one word each -/
theorem de_binD {a b : Expr} {op : Operator} {oa ob : Opd} {f : List D → Res} {pos : Pos} (hp : ∃ r, OpR X (binaryOp op) r ∧ OKr X (rB r) f) (ha : DO X W a oa) (hb : DO X W b ob) : DE X W (.BinOp a op b pos) (mOp f [oa, ob]) := by
  obtain ⟨r, h1, h2⟩ := hp
  exact de_bin h1 h2 ha hb
theorem de_cmpD {a b : Expr} {op : CmpOp} {oa ob : Opd} {f : List D → Res} {pos : Pos} (hp : ∃ r, OpR X (compareOp op) r ∧ OKr X (rB r) f) (ha : DO X W a oa) (hb : DO X W b ob) (hm : behindInMarks op b = false := by first | exact nomark _ | rfl) : DE X W (.Compare a [op] [b] pos) (mOp f [oa, ob]) := by
  obtain ⟨r, h1, h2⟩ := hp
  exact de_cmp h1 h2 ha hb hm
theorem dt_cmpD {a b : Expr} {op : CmpOp} {oa ob : Opd} {f : List D → Res} {pos : Pos} (hp : ∃ r, OpR X (compareOp op) r ∧ OKr X (rB r) f) (ha : DO X W a oa) (hb : DO X W b ob) (hm : behindInMarks op b = false := by first | exact nomark _ | rfl) : DT X W (.Compare a [op] [b] pos) (mB (mOp f [oa, ob])) := by
  obtain ⟨r, h1, h2⟩ := hp
  exact dt_cmp h1 h2 ha hb hm
/-- is, is not: None, True, False -/
def fIs (neg : Bool) : List D → Res
  | [x, .non] => .val (.bl (if neg then !isNon x else isNon x))
  | [.bl a, .bl b] => .val (.bl (if neg then !decide (a = b) else decide (a = b)))
  | _ => .bad
theorem okr_is (neg : Bool) : OKr X (rB fun x y H Q => (y = .non ∧ Q (.bl (if neg then !decide (x = .non) else decide (x = .non))) H) ∨ ∃ a b, x = .bl a ∧ y = .bl b ∧ Q (.bl (if neg then !decide (a = b) else decide (a = b))) H) (fIs neg) := by
  intro Hs H xs ws Q s V q
  unfold fIs at q
  split at q
  · obtain ⟨v, w, rfl, ⟨F, hv⟩, ⟨F2, hw⟩⟩ := vws2 V
    refine .inl ⟨hw.1, ?_⟩
    rw [isNon_ok hv]
    exact q _ ⟨rfl, rfl⟩
  · have e := vws_scal V rfl
    subst e
    exact .inr ⟨_, _, rfl, rfl, q _ ⟨rfl, rfl⟩⟩
  · exact q.elim
theorem op_isD : ∃ r, OpR X (compareOp .Is) r ∧ OKr X (rB r) (fIs false) := ⟨_, OpR.or op_isN op_is_bl, okr_is false⟩
theorem op_isNotD : ∃ r, OpR X (compareOp .IsNot) r ∧ OKr X (rB r) (fIs true) := ⟨_, OpR.or op_notN op_isnot_bl, okr_is true⟩
/-- -a -/
def fNeg : List D → Res
  | [.int i] => .val (.int (-i))
  | _ => .bad
theorem de_neg {a : Expr} {oa : Opd} {pos : Pos} (ha : DO X W a oa) : DE X W (.UnaryOp .USub a pos) (mOp fNeg [oa]) :=
  de_un un_neg (fun Hs H xs ws Q s V q => by
    unfold fNeg at q
    split at q
    · have e := vws_scal V rfl
      subst e
      exact ⟨_, rfl, q _ ⟨rfl, rfl⟩⟩
    · exact q.elim) ha
/-! ### chains of two comparisons of ints -/
def mChain (f g : Int → Int → Bool) (oa ob oc : Opd) : M := fun δ => (runs [oa, ob] δ).bind fun l δ1 => match (gets [oa, ob] l δ1).bind int2 with
  | some (i, j) => if f i j = true then (runs [oc] δ1).bind fun l2 δ2 => (match (gets [oc] l2 δ2).bind int1 with
      | some k => .ok (.bl (g j k)) δ2
      | none => .bad) else .ok (.bl false) δ1
  | none => .bad
theorem views_of {K : PySem.W.Frag} {mg : Str → Option Value} {H : Hp} {δ ds ts : Env} {σ vs us : List (Option V)} {os : List Opd} {l xs : List D} {ws : List V} (r : Rel K mg H δ σ (ts ++ ds) (us ++ vs)) (hl : us.length = ts.length) (has : Has σ ts us os l ws) (hg : gets os l δ = some xs) : ∃ Hs, Sub Hs H ∧ Vws K mg Hs H xs ws := by
  obtain ⟨Hs, F, G, s, h1, h2, nd, no⟩ := r
  obtain ⟨us1, us2, G1, G2, e, q1, q2, e2⟩ := vos_split h2
  have hl' : us1.length = us.length := by rw [vos_len q1, hl]
  obtain ⟨rfl, rfl⟩ := List.append_inj e.symm hl'
  exact ⟨Hs, s, views h1 q1 has hg⟩
theorem chain_sem {f g : Int → Int → Bool} {oa ob oc : Opd} {a b c : Expr} (ha : DO X W a oa) (hb : DO X W b ob) (hc : DO X W c oc) : ∃ ta tb tc, PE X a ta ∧ PE X b tb ∧ PE X c tc ∧
    ∀ σ H δ ds vs Q, Rel X.K X.mg H δ σ ds vs → PostG X.K X.mg W σ ds vs (okE X.K X.mg σ ds vs Q) (mChain f g oa ob oc δ) → tChain (rI0 fun i j => .bl (f i j)) (rI0 fun i j => .bl (g i j)) ta tb tc σ H Q := by
  obtain ⟨ts, h1, h2⟩ := opds_ok (X := X) (W := W) (es := [a, b]) (os := [oa, ob]) ⟨ha, hb, trivial⟩
  obtain ⟨us, g1, g2⟩ := opds_ok (X := X) (W := W) (es := [c]) (os := [oc]) ⟨hc, trivial⟩
  match ts, h1, h2, us, g1, g2 with
  | [t1, t2], h1, h2, [t3], g1, g2 =>
    refine ⟨t1, t2, t3, h1.1, h1.2.1, g1.1, fun σ H δ ds vs Q r p => ?_⟩
    have key := h2 σ H δ ds vs (fun ws H2 => match ws with
      | [x, y] => rI0 (fun i j => .bl (f i j)) x y H2 fun z H3 => ∃ k, z = .bl k ∧ (if k = true then t3 σ H3 fun w' H4 => rI0 (fun i j => .bl (g i j)) y w' H4 Q else Q (.bl false) H3)
      | _ => False) r (p.bind fun l δ1 hp => fun ws H1 tt uu r1 hl has => ?_)
    · exact key
    · cases hg : gets [oa, ob] l δ1 with
      | none =>
        rw [hg] at hp
        exact hp.elim
      | some xs =>
        rw [hg, Option.bind_some] at hp
        cases hi : int2 xs with
        | none =>
          rw [hi] at hp
          exact hp.elim
        | some n =>
          obtain ⟨i, j⟩ := n
          rw [hi] at hp
          dsimp only at hp
          obtain ⟨Hs, s, V⟩ := views_of r1 hl has hg
          have e := int2_eq hi
          subst e
          have ew := vws_scal V rfl
          subst ew
          refine ⟨i, j, rfl, rfl, f i j, rfl, ?_⟩
          by_cases hf : f i j = true
          · rw [if_pos hf] at hp ⊢
            have key2 := g2 σ H1 δ1 (tt ++ ds) (uu ++ vs) (fun ws H4 => match ws with
              | [w'] => rI0 (fun i j => .bl (g i j)) (.int j) w' H4 Q
              | _ => False) r1 (PostG.more (okp := fun l2 δ2 => PostG X.K X.mg W σ ds vs (okE X.K X.mg σ ds vs Q) (match (gets [oc] l2 δ2).bind int1 with
                | some k => .ok (.bl (g j k)) δ2
                | none => .bad)) hl (hp.bind fun l2 δ2 q => q) fun l2 δ2 q => fun ws2 H2 tt2 uu2 r2 hl2 has2 => ?_)
            · exact key2
            · cases hg2 : gets [oc] l2 δ2 with
              | none =>
                rw [hg2] at q
                exact q.elim
              | some xs2 =>
                rw [hg2, Option.bind_some] at q
                cases hi2 : int1 xs2 with
                | none =>
                  rw [hi2] at q
                  exact q.elim
                | some k =>
                  rw [hi2] at q
                  obtain ⟨Hs2, s2, V2⟩ := views_of r2 hl2 has2 hg2
                  have e := int1_eq hi2
                  subst e
                  have ew := vws_scal V2 rfl
                  subst ew
                  refine ⟨j, k, rfl, rfl, ?_⟩
                  exact q (.bl (g j k)) H2 (Rel.push (Rel.drop hl (Rel.drop hl2 r2)) fun Hs => ⟨rfl, rfl⟩)
          · rw [if_neg hf] at hp
            have ef : f i j = false := by
              cases h : f i j with
              | true => exact (hf h).elim
              | false => rfl
            rw [ef, if_neg Bool.false_ne_true]
            exact hp (.bl false) H1 (Rel.push (Rel.drop hl r1) fun Hs => ⟨rfl, rfl⟩)
/-- a comparison of ints by its operator -/
structure IntCmp (X : Cx) (op : CmpOp) (f : Int → Int → Bool) : Prop where
  ok : OpR X (compareOp op) (rI0 fun i j => .bl (f i j))
theorem ic_lt : IntCmp X .Lt fun i j => decide (i < j) := ⟨op_lt⟩
theorem ic_le : IntCmp X .LtE fun i j => decide (i ≤ j) := ⟨op_le⟩
theorem ic_gt : IntCmp X .Gt fun i j => decide (j < i) := ⟨op_gt⟩
theorem ic_ge : IntCmp X .GtE fun i j => decide (j ≤ i) := ⟨op_ge⟩
theorem de_chain {f g : Int → Int → Bool} {op op' : CmpOp} {oa ob oc : Opd} {a b c : Expr} {pos : Pos} (h1 : IntCmp X op f) (h2 : IntCmp X op' g) (ha : DO X W a oa) (hb : DO X W b ob) (hc : DO X W c oc) (hm : lastMarks [op, op'] [b, c] = false := by with_unfolding_all rfl) :
    DE X W (.Compare a [op, op'] [b, c] pos) (mChain f g oa ob oc) := by
  obtain ⟨ta, tb, tc, t1, t2, t3, sem⟩ := chain_sem (f := f) (g := g) ha hb hc
  exact ⟨_, pe_chain h1.ok h2.ok t1 t2 t3 hm, sem⟩
theorem dt_chain {f g : Int → Int → Bool} {op op' : CmpOp} {oa ob oc : Opd} {a b c : Expr} {pos : Pos} (h1 : IntCmp X op f) (h2 : IntCmp X op' g) (ha : DO X W a oa) (hb : DO X W b ob) (hc : DO X W c oc) (hm : lastMarks [op, op'] [b, c] = false := by with_unfolding_all rfl) :
    DT X W (.Compare a [op, op'] [b, c] pos) (mB (mChain f g oa ob oc)) := by
  obtain ⟨ta, tb, tc, t1, t2, t3, sem⟩ := chain_sem (f := f) (g := g) ha hb hc
  exact ⟨_, pt_chain h1.ok h2.ok t1 t2 t3 hm, test_of sem⟩
/-! ### methods of texts -/
/-- what a text's method tells of its argument -/
def OKm (X : Cx) (r : V → List V → Hp → VK → Prop) (f : Str → List D → Res) : Prop := ∀ Hs H a xs ws Q, Sub Hs H → Vws X.K X.mg Hs H xs ws → ResOK X Hs H (f a xs) Q → r (.str a) ws H Q
def mM (f : Str → List D → Res) (mo : M) (os : List Opd) : M := fun δ => (mo δ).bind fun d δ1 => match str1 [d] with
  | some a => (runs os δ1).bind fun l δ2 => (match gets os l δ2 with
    | some xs => (f a xs).fin δ2
    | none => .bad)
  | none => .bad
theorem de_m1 {id : String} {name : Str} {o e : Expr} {mo : M} {oe : Opd} {apos pos : Pos} {r : V → List V → Hp → VK → Prop} {f : Str → List D → Res} (slot : Slot "str" name id) (ty : typeOf (.builtin id) = pure (.type "method_descriptor")) (rule : MtR X id r) (hf : OKm X r f) (ho : DE X W o mo) (he : DO X W e oe)
    (hst : noStar e = true := by rfl) (hbase : attributeBase o name X.env (eval o X.env) = eval o X.env := by rfl) (hline : (apos.endLine == pos.line) = true := by rfl) : DE X W (.Call (.Attribute o name apos) [e] [] pos) (mM f mo [oe]) := by
  obtain ⟨t, h1, h2⟩ := ho
  obtain ⟨ts, g1, g2⟩ := opds_ok (X := X) (W := W) (es := [e]) (os := [oe]) ⟨he, trivial⟩
  match ts, g1, g2 with
  | [te], g1, g2 =>
    refine ⟨_, pe_m1 slot ty rule h1 g1.1 (star_of hst _ _) hbase hline, fun σ H δ ds vs Q r' p => ?_⟩
    refine h2 σ H δ ds vs _ r' (p.bind fun d δ1 hp => fun v H1 r1 => ?_)
    cases hs : str1 [d] with
    | none =>
      rw [hs] at hp
      exact hp.elim
    | some a =>
      rw [hs] at hp
      have ed := str1_eq hs
      cases ed
      have ev : v = .str a := by
        obtain ⟨Hs, F, s, q⟩ := r1.look
        exact q.1
      subst ev
      refine ⟨⟨a, rfl⟩, ?_⟩
      have key := g2 σ H1 δ1 ds vs (fun ws H2 => r (.str a) ws H2 Q) r1.tail (hp.bind fun l δ2 q => op_end (r := fun ws H2 Q => r (.str a) ws H2 Q) (f := f a) (fun Hs H xs ws Q s V q => hf Hs H a xs ws Q s V q) q)
      exact key
theorem de_m0 {id : String} {name : Str} {o : Expr} {mo : M} {apos pos : Pos} {r : V → List V → Hp → VK → Prop} {f : Str → List D → Res} (slot : Slot "str" name id) (ty : typeOf (.builtin id) = pure (.type "method_descriptor")) (rule : MtR X id r) (hf : OKm X r f) (ho : DE X W o mo)
    (hbase : attributeBase o name X.env (eval o X.env) = eval o X.env := by rfl) (hline : (apos.endLine == pos.line) = true := by rfl) : DE X W (.Call (.Attribute o name apos) [] [] pos) (mM f mo []) := by
  obtain ⟨t, h1, h2⟩ := ho
  refine ⟨_, pe_m0 slot ty rule h1 hbase hline, fun σ H δ ds vs Q r' p => ?_⟩
  refine h2 σ H δ ds vs _ r' (p.bind fun d δ1 hp => fun v H1 r1 => ?_)
  cases hs : str1 [d] with
  | none =>
    rw [hs] at hp
    exact hp.elim
  | some a =>
    rw [hs] at hp
    have ed := str1_eq hs
    cases ed
    have ev : v = .str a := by
      obtain ⟨Hs, F, s, q⟩ := r1.look
      exact q.1
    subst ev
    refine ⟨⟨a, rfl⟩, ?_⟩
    have hp' : PostG X.K X.mg W σ ds vs (okE X.K X.mg σ ds vs Q) ((f a []).fin δ1) := hp
    exact op_end (r := fun ws H2 Q => r (.str a) ws H2 Q) (f := f a) (os := []) (l := []) (fun Hs H xs ws Q s V q => hf Hs H a xs ws Q s V q) hp' [] H1 [] [] r1.tail rfl trivial
/-- one text more, a text or a truth told -/
def fM1 (C : Str → Str → Bool) (g : Str → Str → D) : Str → List D → Res := fun a xs => match str1 xs with
  | some b => if C a b = true then .val (g a b) else .bad
  | none => .bad
theorem okm_1 {C : Str → Str → Prop} {C' : Str → Str → Bool} {g : Str → Str → V} {g' : Str → Str → D} (hC : ∀ a b, C' a b = true → C a b) (hg : ∀ a b, isSc (g' a b) = true ∧ sc (g' a b) = g a b) : OKm X (fun x xs H Q => ∃ a b, x = .str a ∧ xs = [.str b] ∧ C a b ∧ Q (g a b) H) (fM1 C' g') := by
  intro Hs H a xs ws Q s V q
  unfold fM1 at q
  cases h : str1 xs with
  | none =>
    rw [h] at q
    exact q.elim
  | some b =>
    rw [h] at q
    dsimp only at q
    have e := str1_eq h
    subst e
    have ew := vws_scal V rfl
    subst ew
    by_cases hc : C' a b = true
    · rw [if_pos hc] at q
      refine ⟨a, b, rfl, rfl, hC a b hc, ?_⟩
      rw [← (hg a b).2]
      exact q _ (vr_sc (hg a b).1)
    · rw [if_neg hc] at q
      exact q.elim
def fStarts : Str → List D → Res := fM1 (fun _ _ => true) fun a b => .bl (Txt.startswith a b)
theorem de_starts {o e : Expr} {mo : M} {oe : Opd} {apos pos : Pos} (ho : DE X W o mo) (he : DO X W e oe) (hst : noStar e = true := by rfl) (hbase : attributeBase o "startswith" X.env (eval o X.env) = eval o X.env := by rfl) (hline : (apos.endLine == pos.line) = true := by rfl) :
    DE X W (.Call (.Attribute o "startswith" apos) [e] [] pos) (mM fStarts mo [oe]) :=
  de_m1 PySem.F.slot_str_startswith PySem.F.type_str_startswith mt_startswith (fun Hs H a xs ws Q s V q => by
    obtain ⟨x, y, e1, e2, _, e3⟩ := okm_1 (X := X) (C := fun _ _ => True) (g := fun a b => .bl (Txt.startswith a b)) (fun _ _ _ => trivial) (fun _ _ => ⟨rfl, rfl⟩) Hs H a xs ws Q s V q
    exact ⟨x, y, e1, e2, e3⟩) ho he hst hbase hline
def fRmPre : Str → List D → Res := fM1 (fun a _ => decide (a.length ≤ sizeLine)) fun a b => .str (Txt.removeprefix a b)
theorem de_rmpre {o e : Expr} {mo : M} {oe : Opd} {apos pos : Pos} (ho : DE X W o mo) (he : DO X W e oe) (hst : noStar e = true := by rfl) (hbase : attributeBase o "removeprefix" X.env (eval o X.env) = eval o X.env := by rfl) (hline : (apos.endLine == pos.line) = true := by rfl) :
    DE X W (.Call (.Attribute o "removeprefix" apos) [e] [] pos) (mM fRmPre mo [oe]) :=
  de_m1 PySem.F.slot_str_removeprefix PySem.F.type_str_removeprefix mt_removeprefix (okm_1 (C := fun a _ => a.length ≤ sizeLine) (fun _ _ h => of_decide_eq_true h) fun _ _ => ⟨rfl, rfl⟩) ho he hst hbase hline
/-- s.split(sep) -/
def fSplit : Str → List D → Res := fun a xs => match str1 xs with
  | some b => if (!(b.length == 0) && decide (a.length + 2 ≤ sizeLine)) = true then .new .lst ((Txt.split a b).map .str) else .bad
  | none => .bad
theorem vrs_strs {K : PySem.W.Frag} {mg : Str → Option Value} {Hs H : Hp} : ∀ l : List Str, Vrs K mg Hs H (l.map .str) (l.map .str) []
  | [] => ⟨rfl, rfl⟩
  | x :: l => ⟨.str x, l.map .str, [], [], rfl, ⟨rfl, rfl⟩, vrs_strs l, rfl⟩
theorem de_split {o e : Expr} {mo : M} {oe : Opd} {apos pos : Pos} (ho : DE X W o mo) (he : DO X W e oe) (hst : noStar e = true := by rfl) (hbase : attributeBase o "split" X.env (eval o X.env) = eval o X.env := by rfl) (hline : (apos.endLine == pos.line) = true := by rfl) :
    DE X W (.Call (.Attribute o "split" apos) [e] [] pos) (mM fSplit mo [oe]) :=
  de_m1 PySem.F.slot_str_split PySem.F.type_str_split mt_split (fun Hs H a xs ws Q s V q => by
    unfold fSplit at q
    cases h : str1 xs with
    | none =>
      rw [h] at q
      exact q.elim
    | some b =>
      rw [h] at q
      dsimp only at q
      have e := str1_eq h
      subst e
      have ew := vws_scal V rfl
      subst ew
      by_cases hc : (!(b.length == 0) && decide (a.length + 2 ≤ sizeLine)) = true
      · rw [if_pos hc] at q
        simp only [Bool.and_eq_true, decide_eq_true_eq, Bool.not_eq_true'] at hc
        exact ⟨a, b, rfl, rfl, hc.1, hc.2, fun p hp => q p _ _ hp (vrs_strs _) fun _ => upd_same⟩
      · rw [if_neg hc] at q
        exact q.elim) ho he hst hbase hline
/-- sep.join(texts) -/
def seqE : List D → Option (List D)
  | [.con (.lst _) es] => some es
  | [.con .tup es] => some es
  | _ => none
def fJoin : Str → List D → Res := fun a xs => match (seqE xs).bind strsD with
  | some ys => if (ys.map (·.length)).sum + ys.length * a.length ≤ 16777216 then .val (.str (Txt.join a ys)) else .bad
  | none => .bad
theorem seq_view {K : PySem.W.Frag} {mg : Str → Option Value} {Hs H : Hp} {xs es : List D} {ws : List V} (s : Sub Hs H) (V : Vws K mg Hs H xs ws) (h : seqE xs = some es) : ∃ a us G, ws = [.ref a] ∧ (SqL K H a us ∨ SqT K H a us) ∧ Vrs K mg Hs H es us G := by
  match xs, h with
  | [.con (.lst m) es0], h =>
    cases h
    obtain ⟨v, rfl, F, hv⟩ := vws1 V
    obtain ⟨a, us, G, e1, e2, e3⟩ := vr_seq s hv
    subst e1
    exact ⟨a, us, G, rfl, .inl e2, e3⟩
  | [.con .tup es0], h =>
    cases h
    obtain ⟨v, rfl, F, hv⟩ := vws1 V
    obtain ⟨a, us, G, e1, e2, e3⟩ := vr_seq s hv
    subst e1
    exact ⟨a, us, G, rfl, .inr e2, e3⟩
theorem de_join {o e : Expr} {mo : M} {oe : Opd} {apos pos : Pos} (ho : DE X W o mo) (he : DO X W e oe) (hst : noStar e = true := by rfl) (hbase : attributeBase o "join" X.env (eval o X.env) = eval o X.env := by rfl) (hline : (apos.endLine == pos.line) = true := by rfl) :
    DE X W (.Call (.Attribute o "join" apos) [e] [] pos) (mM fJoin mo [oe]) :=
  de_m1 PySem.F.slot_str_join PySem.F.type_str_join mt_join (fun Hs H a xs ws Q s V q => by
    unfold fJoin at q
    cases h : seqE xs with
    | none =>
      rw [h] at q
      exact q.elim
    | some es =>
      cases h2 : strsD es with
      | none =>
        rw [h, Option.bind_some, h2] at q
        exact q.elim
      | some ys =>
        rw [h, Option.bind_some, h2] at q
        dsimp only at q
        obtain ⟨p, us, G, rfl, e2, e3⟩ := seq_view s V h
        have e := strsD_eq h2
        subst e
        have eu := vrs_scal e3 (all_sc_strs ys)
        rw [map_sc_strs] at eu
        subst eu
        by_cases hz : (ys.map (·.length)).sum + ys.length * a.length ≤ 16777216
        · rw [if_pos hz] at q
          exact ⟨a, p, ys, rfl, rfl, e2, hz, q _ ⟨rfl, rfl⟩⟩
        · rw [if_neg hz] at q
          exact q.elim) ho he hst hbase hline
/-- s.index(t), found -/
def fIndexS : Str → List D → Res := fun a xs => match str1 xs with
  | some b => (match Txt.index0 a b with
    | some k => .val (.int (k : Nat))
    | none => .bad)
  | none => .bad
theorem mt_index0 (hc : X.calm = true) (tk : Takes X W) : MtR X "str.index" (fun x xs H Q => ∃ (a b : Str) (k : Nat), x = .str a ∧ xs = [.str b] ∧ Txt.index0 a b = some k ∧ Q (.int k) H) := fun pins s σ H x xs v us Q I rx rs h => by
  obtain ⟨a, b, k, rfl, rfl, e, q⟩ := h
  exact mt_indexX hc tk pins s σ H _ _ v us Q I rx rs ⟨a, b, rfl, rfl, fun k' e' => by
    rw [e] at e'
    cases e'
    exact q, fun z => by rw [e] at z; cases z⟩
theorem de_indexS {o e : Expr} {mo : M} {oe : Opd} {apos pos : Pos} (hc : X.calm = true) (tk : Takes X W) (ho : DE X W o mo) (he : DO X W e oe) (hst : noStar e = true := by rfl) (hbase : attributeBase o "index" X.env (eval o X.env) = eval o X.env := by rfl) (hline : (apos.endLine == pos.line) = true := by rfl) :
    DE X W (.Call (.Attribute o "index" apos) [e] [] pos) (mM fIndexS mo [oe]) :=
  de_m1 PySem.F.slot_str_index PySem.F.type_str_index (mt_index0 hc tk) (fun Hs H a xs ws Q s V q => by
    unfold fIndexS at q
    cases h : str1 xs with
    | none =>
      rw [h] at q
      exact q.elim
    | some b =>
      rw [h] at q
      dsimp only at q
      have e := str1_eq h
      subst e
      have ew := vws_scal V rfl
      subst ew
      cases hk : Txt.index0 a b with
      | none =>
        rw [hk] at q
        exact q.elim
      | some k =>
        rw [hk] at q
        exact ⟨a, b, k, rfl, rfl, hk, q _ ⟨rfl, rfl⟩⟩) ho he hst hbase hline
end
end DN

/-! Dn9: slices, append, displays of dicts, += at names, list(), tuple(). -/
namespace DN
open PySem PySem.Spec PyProof.Rows L2

section
variable {K : PySem.W.Frag} {mg : Str → Option Value} {Hs H : Hp}
theorem vrs_drop : ∀ {es : List D} {us : List V} (n : Nat), Vrs K mg Hs H es us [] → Vrs K mg Hs H (es.drop n) (us.drop n) []
  | es, us, 0, h => h
  | [], us, n + 1, h => by
    rw [h.1]
    exact ⟨rfl, rfl⟩
  | d :: es, us, n + 1, h => by
    obtain ⟨v, ws, F1, F2, e1, e2, e3, e4⟩ := h
    have z := List.append_eq_nil_iff.mp e4.symm
    rw [e1]
    rw [z.2] at e3
    exact vrs_drop n e3
theorem vrs_take : ∀ {es : List D} {us : List V} (n : Nat), Vrs K mg Hs H es us [] → Vrs K mg Hs H (es.take n) (us.take n) []
  | es, us, 0, h => ⟨rfl, rfl⟩
  | [], us, n + 1, h => by
    rw [h.1]
    exact ⟨rfl, rfl⟩
  | d :: es, us, n + 1, h => by
    obtain ⟨v, ws, F1, F2, e1, e2, e3, e4⟩ := h
    have z := List.append_eq_nil_iff.mp e4.symm
    rw [e1]
    rw [z.2] at e3
    rw [z.1] at e2
    exact ⟨v, ws.take n, [], [], rfl, e2, vrs_take n e3, rfl⟩
end
def cutD (es : List D) (lo hi : Option Int) : List D := (es.drop (HT.sIx es.length 0 lo)).take (HT.sIx es.length es.length hi - HT.sIx es.length 0 lo)
def fSl (lo hi : Option Int) : List D → Res
  | [.str z] => if z.length ≤ sizeLine then .val (.str (cutS z lo hi)) else .bad
  | [.con (.lst _) es] => if D.pures es = true then .new .lst (cutD es lo hi) else .bad
  | [.con .tup es] => if D.pures es = true ∧ ¬ (HT.sIx es.length 0 lo = 0 ∧ HT.sIx es.length es.length hi = es.length) then .new .tup (cutD es lo hi) else .bad
  | _ => .bad
def runPart : Option Opd → Env → R (Option Int)
  | none, δ => .ok none δ
  | some o, δ => (runs [o] δ).bind fun l δ1 => match (gets [o] l δ1).bind int1 with
    | some i => .ok (some i) δ1
    | none => .bad
def mSl (oa : Opd) (lo hi : Option Opd) : M := fun δ => (runs [oa] δ).bind fun l δ1 => (runPart lo δ1).bind fun a δ2 => (runPart hi δ2).bind fun b δ3 => match gets [oa] l δ3 with
  | some xs => (fSl a b xs).fin δ3
  | none => .bad
section
variable {X : Cx} {W : WX}
theorem okr_sl (lo hi : Option Int) : OKr X (fun ws H Q => match ws with
    | [x] => (rSlS x lo hi H Q ∨ rSlL X.K x lo hi H Q) ∨ rSlT X.K x lo hi H Q
    | _ => False) (fSl lo hi) := by
  intro Hs H xs ws Q s V q
  unfold fSl at q
  split at q
  · rename_i z
    have e := vws_scal V rfl
    subst e
    by_cases hz : z.length ≤ sizeLine
    · rw [if_pos hz] at q
      exact .inl (.inl ⟨z, rfl, hz, q _ ⟨rfl, rfl⟩⟩)
    · rw [if_neg hz] at q
      exact q.elim
  · rename_i m es
    obtain ⟨v, rfl, F, hv⟩ := vws1 V
    obtain ⟨a, us, G, e1, e2, e3⟩ := vr_seq s hv
    subst e1
    by_cases hp : D.pures es = true
    · rw [if_pos hp] at q
      refine .inl (.inr ⟨a, us, rfl, e2, fun p hn => ?_⟩)
      have e4 := vrs_pureAll hp e3
      have el := vrs_len e3
      refine q p (cutV us lo hi) _ hn ?_ fun _ => upd_same
      unfold cutV cutD
      rw [el]
      exact vrs_take _ (vrs_drop _ e4)
    · rw [if_neg hp] at q
      exact q.elim
  · rename_i es
    obtain ⟨v, rfl, F, hv⟩ := vws1 V
    obtain ⟨a, us, G, e1, e2, e3⟩ := vr_seq s hv
    subst e1
    by_cases hp : D.pures es = true ∧ ¬ (HT.sIx es.length 0 lo = 0 ∧ HT.sIx es.length es.length hi = es.length)
    · rw [if_pos hp] at q
      have e4 := vrs_pureAll hp.1 e3
      have el := vrs_len e3
      refine .inr ⟨a, us, rfl, e2, by rw [el]; exact hp.2, fun p hn => ?_⟩
      refine q p (cutV us lo hi) _ hn ?_ fun _ => .inl (.inl upd_same)
      unfold cutV cutD
      rw [el]
      exact vrs_take _ (vrs_drop _ e4)
    · rw [if_neg hp] at q
      exact q.elim
  · exact q.elim
variable (X W) in
def DP : Option Expr → Option Opd → Prop
  | none, none => True
  | some e, some o => DO X W e o
  | _, _ => False
theorem part_ok {e : Option Expr} {o : Option Opd} (h : DP X W e o) : ∃ t, PO X e t ∧ ∀ σ H δ ds vs Q, Rel X.K X.mg H δ σ ds vs → PostG X.K X.mg W σ ds vs (fun a δ' => ∀ H', Rel X.K X.mg H' δ' σ ds vs → Q a H') (runPart o δ) → t σ H Q := by
  match e, o, h with
  | none, none, _ => exact ⟨tNoPart, po_none, fun σ H δ ds vs Q r p => p H r⟩
  | some e, some o, h =>
    obtain ⟨ts, h1, h2⟩ := opds_ok (X := X) (W := W) (es := [e]) (os := [o]) ⟨h, trivial⟩
    match ts, h1, h2 with
    | [t], h1, h2 =>
      refine ⟨tPart t, po_some h1.1, fun σ H δ ds vs Q r p => ?_⟩
      have key := h2 σ H δ ds vs (fun ws H2 => match ws with
        | [x] => ∃ i, x = .int i ∧ Q (some i) H2
        | _ => False) r (p.bind fun l δ1 hp => fun ws H1 tt uu r1 hl has => ?_)
      · exact key
      · cases hg : gets [o] l δ1 with
        | none =>
          rw [hg] at hp
          exact hp.elim
        | some xs =>
          rw [hg, Option.bind_some] at hp
          cases hi : int1 xs with
          | none =>
            rw [hi] at hp
            exact hp.elim
          | some i =>
            rw [hi] at hp
            obtain ⟨Hs, s, V⟩ := views_of r1 hl has hg
            have e := int1_eq hi
            subst e
            have ew := vws_scal V rfl
            subst ew
            exact ⟨i, rfl, hp H1 (Rel.drop hl r1)⟩
theorem has_one {σ : L2.St} {tt : Env} {uu : List (Option V)} {o : Opd} : ∀ {l : List D} {ws : List V}, Has σ tt uu [o] l ws → ∃ x d, ws = [x] ∧ l = [d]
  | [d], [x], _ => ⟨x, d, rfl, rfl⟩
  | [], [], h => False.elim h
  | [], _ :: _, h => False.elim h
  | _ :: _, [], h => False.elim h
  | _ :: _ :: _, _ :: _, h => False.elim h.2
  | [_], _ :: _ :: _, h => False.elim h.2
theorem de_slice {a : Expr} {lo hi : Option Expr} {oa : Opd} {ol oh : Option Opd} {p2 pos : Pos} (ha : DO X W a oa) (hl : DP X W lo ol) (hh : DP X W hi oh) : DE X W (.Subscript a (.Slice lo hi none p2) pos) (mSl oa ol oh) := by
  obtain ⟨ts, h1, h2⟩ := opds_ok (X := X) (W := W) (es := [a]) (os := [oa]) ⟨ha, trivial⟩
  obtain ⟨tl, l1, l2⟩ := part_ok hl
  obtain ⟨th, u1, u2⟩ := part_ok hh
  match ts, h1, h2 with
  | [t], h1, h2 =>
    refine ⟨_, pe_slice (SlR.or (SlR.or sl_str sl_list) sl_tup) h1.1 l1 u1, fun σ H δ ds vs Q r p => ?_⟩
    have key := h2 σ H δ ds vs (fun ws H2 => match ws with
      | [x] => tl σ H2 fun l H3 => th σ H3 fun u H4 => (rSlS x l u H4 Q ∨ rSlL X.K x l u H4 Q) ∨ rSlT X.K x l u H4 Q
      | _ => False) r (p.bind fun l δ1 hp => fun ws H1 tt uu r1 hlen has => ?_)
    · exact key
    · obtain ⟨x, d, ew, el⟩ := has_one has
      subst ew
      subst el
      refine l2 σ H1 δ1 (tt ++ ds) (uu ++ vs) _ r1 (PostG.more (okp := fun a δ2 => PostG X.K X.mg W σ ds vs (okE X.K X.mg σ ds vs Q) ((runPart oh δ2).bind fun b δ3 => match gets [oa] [d] δ3 with
        | some xs => (fSl a b xs).fin δ3
        | none => .bad)) hlen (hp.bind fun a δ2 q => q) fun lo' δ2 q => fun H2 r2 => ?_)
      refine u2 σ H2 δ2 (tt ++ ds) (uu ++ vs) _ r2 (PostG.more (okp := fun b δ3 => PostG X.K X.mg W σ ds vs (okE X.K X.mg σ ds vs Q) (match gets [oa] [d] δ3 with
        | some xs => (fSl lo' b xs).fin δ3
        | none => .bad)) hlen (q.bind fun b δ3 q => q) fun hi' δ3 q => fun H3 r3 => ?_)
      exact op_end (W := W) (okr_sl lo' hi') q [x] H3 tt uu r3 hlen has
/-! ### xs.append(e) -/
def isL : Option (Option D) → Bool
  | some (some (.con (.lst _) _)) => true
  | _ => false
def sApp (i : Nat) (m : M) : MS := fun δ => if isL (δ[i]?) = true then toS (m δ) fun d δ1 => (match δ1[i]? with
  | some (some (.con (.lst .own) es)) => if es.length < sizeLine then .nx (δ1.set i (some (.lst .own (es ++ [d])))) else .bad
  | _ => .bad) else .bad
theorem lst_slot {K : PySem.W.Frag} {mg : Str → Option Value} {H : Hp} {δ ds : Env} {σ vs : List (Option V)} {i : Nat} (r : Rel K mg H δ σ ds vs) (h : isL (δ[i]?) = true) : ∃ p us, σ[i]? = some (some (.ref p)) ∧ SqL K H p us := by
  unfold isL at h
  split at h
  · rename_i m es e
    obtain ⟨Hs, F, G, s, h1, h2, nd, no⟩ := r
    obtain ⟨v, Fi, Fr, e1, q1, _, _⟩ := vos_at h1 e
    cases v with
    | none => exact q1.elim
    | some v =>
      obtain ⟨a, us, G1, f1, f2, f3⟩ := vr_seq s q1
      subst f1
      exact ⟨a, us, e1, f2⟩
  · cases h
theorem ds_app {o e : Expr} {i : Nat} {m : M} {apos cpos pos : Pos} (ho : PE X o (tVar i)) (he : DE X W e m) (hst : noStar e = true := by rfl)
    (hbase : attributeBase o "append" X.env (eval o X.env) = eval o X.env := by rfl)
    (hline : (apos.endLine == cpos.line) = true := by rfl) (hs : swapsWith (.Call (.Attribute o "append" apos) [e] [] cpos) none pos.line X.env = pure false := by rfl) :
    DS X W (.Expr (.Call (.Attribute o "append" apos) [e] [] cpos) pos) [] (sApp i m) := by
  obtain ⟨t, h1, h2⟩ := he
  have hfew : ((backTo cpos (starEach [e] X.env)).all (fun x => !x.1) && (backToKw cpos (keywordEach [] X.env)).all (fun x => x.1.isSome)
      && decide ([e].length + ([] : List Keyword).length + (if ([] : List Keyword).isEmpty then 0 else 1) < 30)) = true := by
    rw [star_of hst]
    rfl
  refine ⟨_, ps_expr (pe_bm PySem.F.plainAttrs_list PySem.F.slot_list_append PySem.F.type_list_append mt_append ho (pa_cons h1 pa_nil (star_of hst _ _)) hbase hfew hline (star_of hst _ _) rfl) hs, fun Dd σ H δ ds vs r p => ?_⟩
  unfold sApp at p
  by_cases hL : isL (δ[i]?) = true
  · rw [if_pos hL] at p
    obtain ⟨pa, us, e1, e2⟩ := lst_slot r hL
    refine ⟨.ref pa, e1, .inl ⟨rfl, us, e2⟩, ?_⟩
    refine h2 σ H δ ds vs _ r (p.bindG fun d δ1 q => fun y H1 r1 => ?_)
    split at q
    · rename_i es e3
      by_cases hz : es.length < sizeLine
      · rw [if_pos hz] at q
        obtain ⟨v, e4, r2⟩ := r1.take e3
        rw [e1] at e4
        cases e4
        obtain ⟨p0, us0, f1, f2, f3, r3⟩ := Rel.app r2
        cases f1
        have hi : i < δ1.length := by
          by_cases h : i < δ1.length
          · exact h
          · rw [List.getElem?_eq_none (by omega)] at e3
            cases e3
        have r4 := r3.assign (i := i) (by rw [List.length_set]; exact hi)
        rw [List.set_set, set_same e1] at r4
        exact ⟨pa, us0, y, rfl, rfl, f3, by rw [f2]; exact hz, q σ _ (Agree.refl _ σ) r4⟩
      · rw [if_neg hz] at q
        exact q.elim
    · exact q.elim
  · rw [if_neg hL] at p
    exact p.elim
/-- {} -/
def mDic : M := fun δ => .ok (.con (.dic .own []) []) δ
theorem de_dic0 {pos : Pos} : DE X W (.Dict [] [] pos) mDic := by
  refine ⟨tDNewK, pe_dnewK, fun σ H δ ds vs Q r p => fun q hq => ?_⟩
  exact p (.ref q) _ (Rel.newOwn (es := []) (us := []) (k := .dic .own []) (o := .dK []) rfl r hq rfl fun Hs => ⟨rfl, upd_same⟩)
/-- list(xs) -/
def fList : List D → Res := fun xs => match seqE xs with
  | some es => if D.pures es = true then .new .lst es else .bad
  | none => .bad
theorem de_list1 {p pos : Pos} {a : Expr} {oa : Opd} (hg : Gl X "list") (hm : X.mg "list" = none) (ha : DO X W a oa) (hst : [a].all noStar = true := by rfl) : DE X W (.Call (.Name "list" p) [a] [] pos) (mOp fList [oa]) :=
  de_callTy (es := []) call_list_of (fun Hs H xs ws Q s V q => by
    unfold fList at q
    cases h : seqE xs with
    | none =>
      rw [h] at q
      exact q.elim
    | some es =>
      rw [h] at q
      dsimp only at q
      by_cases hp : D.pures es = true
      · rw [if_pos hp] at q
        obtain ⟨a, us, G, rfl, e2, e3⟩ := seq_view s V h
        exact ⟨a, us, rfl, e2, fun l hl => q l us _ hl (vrs_pureAll hp e3) fun _ => upd_same⟩
      · rw [if_neg hp] at q
        exact q.elim) hg hm (by decide +kernel) ⟨ha, trivial⟩ hst (by decide) (by decide) rfl
/-- tuple(xs): of a tuple itself, of a list a new one -/
def fTuple : List D → Res
  | [.con .tup es] => if D.pures es = true then .val (.con .tup es) else .bad
  | [.con (.lst _) es] => if D.pures es = true then .new .tup es else .bad
  | _ => .bad
theorem de_tuple1 {p pos : Pos} {a : Expr} {oa : Opd} (hg : Gl X "tuple") (hm : X.mg "tuple" = none) (ha : DO X W a oa) (hst : [a].all noStar = true := by rfl) : DE X W (.Call (.Name "tuple" p) [a] [] pos) (mOp fTuple [oa]) :=
  de_callTy (es := []) call_tuple_of (fun Hs H xs ws Q s V q => by
    unfold fTuple at q
    split at q
    · rename_i es
      obtain ⟨v, rfl, F, hv⟩ := vws1 V
      by_cases hp : D.pures es = true
      · rw [if_pos hp] at q
        have e0 : F = [] := vr_pure (.con .tup es) v F (by
          show (!Kd.tup.isOwn && D.pures es) = true
          rw [hp]
          rfl) hv
        subst e0
        obtain ⟨a, us, G, e1, e2, e3⟩ := vr_seq s hv
        subst e1
        exact ⟨a, us, rfl, .inr ⟨e2, q _ hv⟩⟩
      · rw [if_neg hp] at q
        exact q.elim
    · rename_i m es
      obtain ⟨v, rfl, F, hv⟩ := vws1 V
      obtain ⟨a, us, G, e1, e2, e3⟩ := vr_seq s hv
      subst e1
      by_cases hp : D.pures es = true
      · rw [if_pos hp] at q
        exact ⟨a, us, rfl, .inl ⟨e2, fun l hl => q l us _ hl (vrs_pureAll hp e3) fun _ => .inl (.inl upd_same)⟩⟩
      · rw [if_neg hp] at q
        exact q.elim
    · exact q.elim) hg hm (by decide +kernel) ⟨ha, trivial⟩ hst (by decide) (by decide) rfl
/-- abs, max, min of two ints -/
def fAbs : List D → Res
  | [.int i] => .val (.int (if i < 0 then -i else i))
  | _ => .bad
theorem de_abs {p pos : Pos} {a : Expr} {oa : Opd} (hg : Gl X "abs") (hm : X.mg "abs" = none) (ha : DO X W a oa) (hst : [a].all noStar = true := by rfl) : DE X W (.Call (.Name "abs" p) [a] [] pos) (mOp fAbs [oa]) :=
  de_callB (es := []) call_abs (fun Hs H xs ws Q s V q => by
    unfold fAbs at q
    split at q
    · have e := vws_scal V rfl
      subst e
      exact ⟨_, rfl, q _ ⟨rfl, rfl⟩⟩
    · exact q.elim) hg hm (by decide +kernel) ⟨ha, trivial⟩ hst (by decide) (by decide) rfl
def fMax2 : List D → Res
  | [.int i, .int j] => .val (.int (if j > i then j else i))
  | _ => .bad
def fMin2 : List D → Res
  | [.int i, .int j] => .val (.int (if j < i then j else i))
  | _ => .bad
theorem de_max2 {p pos : Pos} {a b : Expr} {oa ob : Opd} (hc : X.calm = true) (hg : Gl X "max") (hm : X.mg "max" = none) (ha : DO X W a oa) (hb : DO X W b ob) (hst : [a, b].all noStar = true := by rfl) (hpl : (backTo pos (starEach [b] X.env)).any (·.1) = false := by rfl) : DE X W (.Call (.Name "max" p) [a, b] [] pos) (mOp fMax2 [oa, ob]) :=
  de_callB (es := [b]) (call_max2 hc) (fun Hs H xs ws Q s V q => by
    unfold fMax2 at q
    split at q
    · have e := vws_scal V rfl
      subst e
      exact ⟨_, _, rfl, q _ ⟨rfl, rfl⟩⟩
    · exact q.elim) hg hm (by decide +kernel) ⟨ha, hb, trivial⟩ hst (by decide) (by decide) hpl
theorem de_min2 {p pos : Pos} {a b : Expr} {oa ob : Opd} (hc : X.calm = true) (hg : Gl X "min") (hm : X.mg "min" = none) (ha : DO X W a oa) (hb : DO X W b ob) (hst : [a, b].all noStar = true := by rfl) (hpl : (backTo pos (starEach [b] X.env)).any (·.1) = false := by rfl) : DE X W (.Call (.Name "min" p) [a, b] [] pos) (mOp fMin2 [oa, ob]) :=
  de_callB (es := [b]) (call_min2 hc) (fun Hs H xs ws Q s V q => by
    unfold fMin2 at q
    split at q
    · have e := vws_scal V rfl
      subst e
      exact ⟨_, _, rfl, q _ ⟨rfl, rfl⟩⟩
    · exact q.elim) hg hm (by decide +kernel) ⟨ha, hb, trivial⟩ hst (by decide) (by decide) hpl
end
end DN

/-! Dn10: constants of the module; short words. -/
namespace DN
open PySem PySem.Spec PyProof.Rows L2

def mNil : Env → R (List D) := fun δ => .ok [] δ
mutual
/-- a constant that stands in the written part -/
def KD (K : PySem.W.Frag) : D → Value → Prop
  | .non, u => u = .none
  | .bl b, u => u = .bool b
  | .int i, u => ∃ t, u = .int i t
  | .str x, u => ∃ t, u = .str x t
  | .con .tup es, u => ∃ (a : Addr) (o : Obj) (its : List Value) (n : Nat), u = .ref a ∧ K.lookup a = some o ∧ o.cls = .type "tuple" ∧ o.data = .seq its.toArray n ∧ its.length ≤ sizeLine ∧ KDs K es its
  | .con (.lst .fz) es, u => ∃ (a : Addr) (o : Obj) (its : List Value) (n : Nat), u = .ref a ∧ K.lookup a = some o ∧ o.cls = .type "list" ∧ o.dict = none ∧ o.data = .seq its.toArray n ∧ its.length ≤ sizeLine ∧ KDs K es its
  | .con _ _, _ => False
def KDs (K : PySem.W.Frag) : List D → List Value → Prop
  | [], us => us = []
  | d :: ds, us => ∃ u r, us = u :: r ∧ KD K d u ∧ KDs K ds r
end
section
variable {K : PySem.W.Frag} {mg : Str → Option Value} {Hs H : Hp}
mutual
theorem kd_vr : ∀ (d : D) (u : Value), KD K d u → ∃ v, RelV v u ∧ ∀ Hs H, Vr K mg Hs H d v []
  | .non, u, h => ⟨.non, h, fun _ _ => ⟨rfl, rfl⟩⟩
  | .bl b, u, h => ⟨.bl b, h, fun _ _ => ⟨rfl, rfl⟩⟩
  | .int i, u, h => ⟨.int i, h, fun _ _ => ⟨rfl, rfl⟩⟩
  | .str x, u, h => ⟨.str x, h, fun _ _ => ⟨rfl, rfl⟩⟩
  | .con .tup es, u, h => by
    obtain ⟨a, o, its, n, e1, e2, e3, e4, e5, e6⟩ := h
    obtain ⟨vs, r, q⟩ := kds_vr es its e6
    exact ⟨.ref a, e1, fun Hs H => ⟨a, vs, [], rfl, .inr ⟨o, its.toArray, n, e2, e3, e4, by simpa using e5, by simpa using r⟩, q Hs H, rfl⟩⟩
  | .con (.lst .fz) es, u, h => by
    obtain ⟨a, o, its, n, e1, e2, e3, e0, e4, e5, e6⟩ := h
    obtain ⟨vs, r, q⟩ := kds_vr es its e6
    exact ⟨.ref a, e1, fun Hs H => ⟨a, vs, [], rfl, .inr ⟨o, its.toArray, n, e2, e3, e0, e4, by simpa using e5, by simpa using r⟩, q Hs H, rfl⟩⟩
  | .con (.lst .own) es, u, h => h.elim
  | .con (.lst .sh) es, u, h => h.elim
  | .con (.dic _ _) es, u, h => h.elim
  | .con (.obj _ _ _) es, u, h => h.elim
  | .con .hole es, u, h => h.elim
  | .con .gone es, u, h => h.elim
theorem kds_vr : ∀ (ds : List D) (us : List Value), KDs K ds us → ∃ vs, Vals vs us ∧ ∀ Hs H, Vrs K mg Hs H ds vs []
  | [], us, h => by
    rw [show us = [] from h]
    exact ⟨[], .nil, fun _ _ => ⟨rfl, rfl⟩⟩
  | d :: ds, us, h => by
    obtain ⟨u, r, e1, e2, e3⟩ := h
    subst e1
    obtain ⟨v, r1, q1⟩ := kd_vr d u e2
    obtain ⟨vs, r2, q2⟩ := kds_vr ds r e3
    exact ⟨v :: vs, .cons r1 r2, fun Hs H => ⟨v, vs, [], [], rfl, q1 Hs H, q2 Hs H, rfl⟩⟩
end
end
section
variable {X : Cx} {W : WX}
theorem de_globD {x : Str} {pos : Pos} {d : D} (hg : Gl X x) (h : ∃ u, X.mg x = some u ∧ KD X.K d u) (hd : (x == ("__debug__" : Str)) = false := by decide) : DE X W (.Name x pos) (mC d) := by
  obtain ⟨u, hm, k⟩ := h
  obtain ⟨v, r, q⟩ := kd_vr (mg := X.mg) d u k
  exact de_glob hg hm r q hd
end
/-! ### the law's end -/
def spLaw (K : PySem.W.Frag) : Sp := fun vs H Q _ => ∃ (a : Addr) (ns : List Int), vs = [.ref a] ∧ SqL K H a (ns.map V.int) ∧ ns.length ≤ 63 ∧ ∀ H', Q (.bl true) H'
theorem vrs_ints {K : PySem.W.Frag} {mg : Str → Option Value} {Hs H : Hp} : ∀ l : List Int, Vrs K mg Hs H (l.map .int) (l.map .int) []
  | [] => ⟨rfl, rfl⟩
  | x :: l => ⟨.int x, l.map .int, [], [], rfl, ⟨rfl, rfl⟩, vrs_ints l, rfl⟩
theorem law_sp {K : PySem.W.Frag} {mg : Str → Option Value} {mf : MF} (hm : ∀ ns : List Int, ns.length ≤ 63 → ∃ as, mf [.con (.lst .fz) (ns.map .int)] = .ok (.bl true) as) : ∀ vs H Q E, spLaw K vs H Q E → spD K mg 1 mf vs H Q E := by
  intro vs H Q E h
  obtain ⟨a, ns, rfl, hS, hl, q⟩ := h
  obtain ⟨as, e⟩ := hm ns hl
  refine ⟨rfl, [.con (.lst .fz) (ns.map .int)], [], [], ?_, ?_⟩
  · exact ⟨H, [], [], fun _ _ q => q, ⟨some (.ref a), [], [], [], rfl, ⟨a, ns.map .int, [], rfl, hS, vrs_ints ns, rfl⟩, ⟨rfl, rfl⟩, rfl⟩, ⟨rfl, rfl⟩, List.nodup_nil, fun _ h => by cases h⟩
  · rw [e]
    intro v H' r
    have ev := bl_of r
    subst ev
    exact q H'
theorem law_cx {P : Program} {w : World} {H : Hp} {s : Shared} {e : Value} {s' : Shared} (h : L2.CX P w [] H s (fun _ _ _ => False) e s') : False := by
  obtain ⟨_, _, _, _, _, _, _, _, _, _, _, _, z⟩ := h
  exact z
end DN

/-! Dn11: reckoning with meanings. -/
namespace DN
open PySem PySem.Spec PyProof.Rows L2

theorem mask_len : ∀ (n j : Nat) (A : List Nat) (δ : Env), (mask n j A δ).length = n
  | 0, _, _, _ => rfl
  | n + 1, j, A, d :: δ => by
    unfold mask
    rw [List.length_cons, mask_len n]
  | n + 1, j, A, [] => by
    unfold mask
    rw [List.length_cons, mask_len n]
/-- a def hands back d -/
def Ret (mf : MF) (l : List D) (d : D) : Prop := ∃ as, mf l = .ok d as ∧ as.length = l.length
theorem ret_rt {nN np : Nat} {A : List Nat} {m : MS} {l : List D} {d : D} {δ : Env} (hl : l.length = np) (h : m (l.map some ++ List.replicate (nN - np) none) = .rt d δ) : Ret (mfOf nN np A m) l d := by
  refine ⟨mask np 0 A δ, ?_, by rw [mask_len, hl]⟩
  unfold mfOf
  rw [h]
theorem ret_nx {nN np : Nat} {A : List Nat} {m : MS} {l : List D} {δ : Env} (hl : l.length = np) (h : m (l.map some ++ List.replicate (nN - np) none) = .nx δ) : Ret (mfOf nN np A m) l .non := by
  refine ⟨mask np 0 A δ, ?_, by rw [mask_len, hl]⟩
  unfold mfOf
  rw [h]
theorem call1 {mf : MF} {a : M} {δ δ1 : Env} {d r : D} (h : a δ = .ok d δ1) (q : Ret mf [d] r) : mCall mf [.val a] δ = .ok r δ1 := by
  obtain ⟨as, e1, e2⟩ := q
  match as, e2 with
  | [x], _ => simp only [mCall, runsA, Arg.run, h, R.bind_ok, e1, putBack]
theorem call2 {mf : MF} {a b : M} {δ δ1 δ2 : Env} {d e r : D} (h : a δ = .ok d δ1) (h2 : b δ1 = .ok e δ2) (q : Ret mf [d, e] r) : mCall mf [.val a, .val b] δ = .ok r δ2 := by
  obtain ⟨as, e1, e2⟩ := q
  match as, e2 with
  | [x, y], _ => simp only [mCall, runsA, Arg.run, h, h2, R.bind_ok, e1, putBack]
theorem call3 {mf : MF} {a b c : M} {δ δ1 δ2 δ3 : Env} {d e f r : D} (h : a δ = .ok d δ1) (h2 : b δ1 = .ok e δ2) (h3 : c δ2 = .ok f δ3) (q : Ret mf [d, e, f] r) : mCall mf [.val a, .val b, .val c] δ = .ok r δ3 := by
  obtain ⟨as, e1, e2⟩ := q
  match as, e2 with
  | [x, y, z], _ => simp only [mCall, runsA, Arg.run, h, h2, h3, R.bind_ok, e1, putBack]
/-- a loop by a word of the turn -/
theorem loop_inv {g : Tg} {m : MS} (I : Nat → Env → Prop) : ∀ (xs : List D) (i : Nat) (δ : Env), I i δ →
    (∀ k x δ, xs[k]? = some x → I (i + k) δ → ∃ δ1 δ2, g.put x δ = some δ1 ∧ (m δ1 = .nx δ2 ∨ m δ1 = .ct δ2) ∧ I (i + k + 1) δ2) → ∃ δ', loop g m xs δ = .nx δ' ∧ I (i + xs.length) δ'
  | [], i, δ, h0, _ => ⟨δ, rfl, h0⟩
  | x :: xs, i, δ, h0, hs => by
    obtain ⟨δ1, δ2, e1, e2, e3⟩ := hs 0 x δ rfl h0
    obtain ⟨δ', f1, f2⟩ := loop_inv I xs (i + 1) δ2 e3 fun k y δ hk hi => by
      have q := hs (k + 1) y δ (by simpa using hk) (by rw [show i + (k + 1) = i + 1 + k by omega]; exact hi)
      obtain ⟨d1, d2, q1, q2, q3⟩ := q
      exact ⟨d1, d2, q1, q2, by rw [show i + 1 + k + 1 = i + (k + 1) + 1 by omega]; exact q3⟩
    refine ⟨δ', ?_, by rw [List.length_cons, show i + (xs.length + 1) = i + 1 + xs.length by omega]; exact f2⟩
    unfold loop
    rw [e1]
    dsimp only
    rcases e2 with e2 | e2
    · rw [e2]
      exact f1
    · rw [e2]
      exact f1
/-- a comprehension whose turns leave the slots as they were -/
theorem loopC_map {g : Tg} {is : List Nat} {m : M} {δ : Env} {f : D → D} : ∀ (xs : List D) (acc : List D), (∀ x ∈ xs, ∃ δ1 δ2, g.put x δ = some δ1 ∧ m δ1 = .ok (f x) δ2 ∧ δ2.length = δ.length ∧ wipeD δ2 is = δ) → acc.length + xs.length ≤ sizeLine →
    loopC g is mYes m xs δ acc = .ok (acc ++ xs.map f) δ
  | [], acc, _, _ => by
    rw [List.map_nil, List.append_nil]
    rfl
  | x :: xs, acc, h, hz => by
    obtain ⟨δ1, δ2, e1, e2, e3, e4⟩ := h x List.mem_cons_self
    unfold loopC
    rw [e1]
    dsimp only [mYes]
    rw [e2]
    dsimp only
    rw [List.length_cons] at hz
    rw [if_pos ⟨by omega, e3⟩, e4, loopC_map xs (acc ++ [f x]) (fun y hy => h y (List.mem_cons_of_mem _ hy)) (by rw [List.length_append, List.length_singleton]; omega), List.append_assoc]
    rfl
theorem loopC_filter {g : Tg} {is : List Nat} {mt : MB} {m : M} {δ : Env} {p : D → Bool} {f : D → D} : ∀ (xs : List D) (acc : List D), (∀ x ∈ xs, ∃ δ1 δ2, g.put x δ = some δ1 ∧ mt δ1 = .ok (p x) δ2 ∧ δ2.length = δ.length ∧ wipeD δ2 is = δ ∧ (p x = true → ∃ δ3, m δ2 = .ok (f x) δ3 ∧ δ3.length = δ.length ∧ wipeD δ3 is = δ)) → acc.length + xs.length ≤ sizeLine →
    loopC g is mt m xs δ acc = .ok (acc ++ (xs.filter p).map f) δ
  | [], acc, _, _ => by
    rw [List.filter_nil, List.map_nil, List.append_nil]
    rfl
  | x :: xs, acc, h, hz => by
    obtain ⟨δ1, δ2, e1, e2, e3, e4, e5⟩ := h x List.mem_cons_self
    unfold loopC
    rw [e1]
    dsimp only
    rw [List.length_cons] at hz
    cases hp : p x with
    | false =>
      rw [e2, hp]
      dsimp only
      rw [if_pos e3, e4, loopC_filter xs acc (fun y hy => h y (List.mem_cons_of_mem _ hy)) (by omega), List.filter_cons_of_neg (by rw [hp]; decide)]
    | true =>
      rw [e2, hp]
      dsimp only
      obtain ⟨δ3, f1, f2, f3⟩ := e5 hp
      rw [f1]
      dsimp only
      rw [if_pos ⟨by omega, f2⟩, f3, loopC_filter xs (acc ++ [f x]) (fun y hy => h y (List.mem_cons_of_mem _ hy)) (by rw [List.length_append, List.length_singleton]; omega), List.filter_cons_of_pos hp, List.map_cons, List.append_assoc]
      rfl
/-! ### meanings at written slots: rules that simp only can use -/
def RS.andThen : RS → MS → RS
  | .nx δ, m => m δ
  | r, _ => r
section
variable {α β : Type} {m m1 m2 m3 mo : M} {t t1 t2 : MB} {s s1 s2 : MS} {δ δ1 : Env} {d a b c : D} {i j : Nat} {f : List D → Res} {k : α → Env → R β}
theorem ev_seq : sSeq s1 s2 δ = (s1 δ).andThen s2 := by
  unfold sSeq RS.andThen
  cases s1 δ <;> rfl
theorem at_nx : (RS.nx δ).andThen s = s δ := rfl
theorem at_rt : (RS.rt d δ).andThen s = .rt d δ := rfl
theorem at_bk : (RS.bk δ).andThen s = .bk δ := rfl
theorem at_ct : (RS.ct δ).andThen s = .ct δ := rfl
theorem at_exc {cc : Str} {fs : List Str} {dp : List D} : (RS.exc cc fs dp δ).andThen s = .exc cc fs dp δ := rfl
theorem toS_ok {x : α} {kk : α → Env → RS} : toS (.ok x δ) kk = kk x δ := rfl
theorem toS_exc {cc : Str} {fs : List Str} {dp : List D} {kk : α → Env → RS} : toS (.exc cc fs dp δ) kk = .exc cc fs dp δ := rfl
theorem bind_ok {x : α} : (R.ok x δ).bind k = k x δ := rfl
theorem bind_exc {cc : Str} {fs : List Str} {dp : List D} : (R.exc cc fs dp δ).bind k = .exc cc fs dp δ := rfl
theorem ev_if : sIf t s1 s2 δ = toS (t δ) fun b δ1 => if b = true then s1 δ1 else s2 δ1 := rfl
theorem ev_set : sSet i m δ = toS (m δ) fun d δ1 => if i < δ1.length then .nx (δ1.set i (some d)) else .bad := rfl
theorem ev_ret : sRet m δ = toS (m δ) fun d δ1 => .rt d δ1 := rfl
theorem ev_drop : sDrop m δ = toS (m δ) fun _ δ1 => .nx δ1 := rfl
def rd (δ : Env) (i : Nat) (k : D → R β) : R β := match δ[i]? with
  | some (some d) => k d
  | _ => .bad
theorem ev_var : mVar i δ = rd δ i fun d => .ok d.frz (δ.set i (some d.frz)) := rfl
theorem ev_move : mMove i δ = rd δ i fun d => .ok d (δ.set i none) := rfl
theorem ev_c : mC d δ = .ok d δ := rfl
theorem ev_nil : mNil δ = .ok [] δ := rfl
theorem ev_cons {ms : Env → R (List D)} : mCons m ms δ = (m δ).bind fun d δ1 => (ms δ1).bind fun l δ2 => .ok (d :: l) δ2 := rfl
theorem ev_tup {ms : Env → R (List D)} : mTup ms δ = (ms δ).bind fun l δ1 => if l.length ≤ sizeLine then .ok (.tup l) δ1 else .bad := rfl
theorem ev_lst {ms : Env → R (List D)} : mLst ms δ = (ms δ).bind fun l δ1 => if l.length ≤ sizeLine then .ok (.lst .own l) δ1 else .bad := rfl
def asBl (d : D) (δ : Env) : R Bool := match d with
  | .bl b => .ok b δ
  | _ => .bad
theorem ev_B : mB m δ = (m δ).bind asBl := by
  unfold mB asBl
  rfl
theorem asBl_bl {b : Bool} : asBl (.bl b) δ = .ok b δ := rfl
theorem ev_and : mAnd t1 t2 δ = (t1 δ).bind fun b δ1 => if b = true then t2 δ1 else .ok false δ1 := rfl
theorem ev_or : mOr t1 t2 δ = (t1 δ).bind fun b δ1 => if b = true then .ok true δ1 else t2 δ1 := rfl
theorem ev_not : mNot t δ = (t δ).bind fun b δ1 => .ok (!b) δ1 := rfl
theorem ev_ifx {e1 e2 : Env → R β} : mIf t e1 e2 δ = (t δ).bind fun b δ1 => if b = true then e1 δ1 else e2 δ1 := rfl
theorem ev_andV : mAndV m1 m2 δ = (m1 δ).bind fun d δ1 => (asBl d δ1).bind fun b δ1 => if b = true then m2 δ1 else .ok (.bl false) δ1 := by
  unfold mAndV
  cases m1 δ with
  | ok d δ1 =>
    cases d with
    | bl b => cases b <;> rfl
    | non => rfl
    | int i => rfl
    | str x => rfl
    | con k l => rfl
  | exc _ _ _ _ => rfl
  | bad => rfl
theorem ev_orV : mOrV m1 m2 δ = (m1 δ).bind fun d δ1 => (asBl d δ1).bind fun b δ1 => if b = true then .ok (.bl true) δ1 else m2 δ1 := by
  unfold mOrV
  cases m1 δ with
  | ok d δ1 =>
    cases d with
    | bl b => cases b <;> rfl
    | non => rfl
    | int i => rfl
    | str x => rfl
    | con k l => rfl
  | exc _ _ _ _ => rfl
  | bad => rfl
theorem ev_notV : mNotV m δ = (m δ).bind fun d δ1 => (asBl d δ1).bind fun b δ1 => .ok (.bl (!b)) δ1 := by
  unfold mNotV
  cases m δ with
  | ok d δ1 => cases d <;> rfl
  | exc _ _ _ _ => rfl
  | bad => rfl
theorem ev_op1n : mOp f [.nm i] δ = rd δ i fun d => (f [d]).fin δ := by
  unfold mOp rd
  simp only [runs, Opd.run]
  cases h : δ[i]? with
  | none => rfl
  | some o =>
    cases o with
    | none => rfl
    | some d => simp only [R.bind, gets, Opd.get, h, Option.join, Option.bind, Option.map]; rfl
theorem ev_op1x : mOp f [.ex m] δ = (m δ).bind fun d δ1 => (f [d.frz]).fin δ1 := by
  unfold mOp
  simp only [runs, Opd.run]
  cases m δ <;> rfl
theorem ev_op2nn : mOp f [.nm i, .nm j] δ = rd δ i fun a => rd δ j fun b => (f [a, b]).fin δ := by
  unfold mOp rd
  cases h : δ[i]? with
  | none => simp only [runs, Opd.run, h, R.bind]
  | some o =>
    cases o with
    | none => simp only [runs, Opd.run, h, R.bind]
    | some d =>
      cases h2 : δ[j]? with
      | none => simp only [runs, Opd.run, h, h2, R.bind]
      | some o2 =>
        cases o2 with
        | none => simp only [runs, Opd.run, h, h2, R.bind]
        | some d2 =>
          simp only [runs, Opd.run, h, h2, R.bind, gets, Opd.get]
          rfl
theorem ev_op2nx : mOp f [.nm i, .ex m] δ = rd δ i fun _ => (m δ).bind fun b δ1 => rd δ1 i fun a => (f [a, b.frz]).fin δ1 := by
  unfold mOp rd
  cases h : δ[i]? with
  | none => simp only [runs, Opd.run, h, R.bind]
  | some o =>
    cases o with
    | none => simp only [runs, Opd.run, h, R.bind]
    | some d =>
      cases hm : m δ with
      | exc _ _ _ _ => simp only [runs, Opd.run, h, R.bind, hm]
      | bad => simp only [runs, Opd.run, h, R.bind, hm]
      | ok d2 δ1 =>
        simp only [runs, Opd.run, h, R.bind, hm, gets, Opd.get]
        cases h2 : δ1[i]? with
        | none => rfl
        | some o2 => cases o2 <;> rfl
theorem ev_op2xn : mOp f [.ex m, .nm j] δ = (m δ).bind fun a δ1 => rd δ1 j fun b => (f [a.frz, b]).fin δ1 := by
  unfold mOp rd
  cases hm : m δ with
  | exc _ _ _ _ => simp only [runs, Opd.run, R.bind, hm]
  | bad => simp only [runs, Opd.run, R.bind, hm]
  | ok d2 δ1 =>
    cases h2 : δ1[j]? with
    | none => simp only [runs, Opd.run, R.bind, hm, h2]
    | some o2 =>
      cases o2 with
      | none => simp only [runs, Opd.run, R.bind, hm, h2]
      | some d3 =>
        simp only [runs, Opd.run, R.bind, hm, h2, gets, Opd.get]
        rfl
theorem ev_op2xx : mOp f [.ex m1, .ex m2] δ = (m1 δ).bind fun a δ1 => (m2 δ1).bind fun b δ2 => (f [a.frz, b.frz]).fin δ2 := by
  unfold mOp
  simp only [runs, Opd.run]
  cases m1 δ with
  | ok d2 δ1 =>
    simp only [R.bind]
    cases m2 δ1 <;> rfl
  | exc _ _ _ _ => rfl
  | bad => rfl
theorem fin_val : (Res.val d).fin δ = .ok d δ := rfl
theorem fin_new {n : Nk} {l : List D} : (Res.new n l).fin δ = .ok (.con n.kd l) δ := rfl
theorem fin_ite {p : Prop} [Decidable p] {r r' : Res} : (if p then r else r').fin δ = if p then r.fin δ else r'.fin δ := by
  split <;> rfl
def asStr (d : D) (k : Str → R β) : R β := match d with
  | .str x => k x
  | _ => .bad
theorem asStr_str {x : Str} {kk : Str → R β} : asStr (.str x) kk = kk x := rfl
theorem ev_m0 {g : Str → List D → Res} : mM g mo [] δ = (mo δ).bind fun d δ1 => asStr d fun x => (g x []).fin δ1 := by
  unfold mM
  cases mo δ with
  | ok d δ1 => cases d <;> rfl
  | exc _ _ _ _ => rfl
  | bad => rfl
theorem ev_m1n {g : Str → List D → Res} : mM g mo [.nm i] δ = (mo δ).bind fun d δ1 => asStr d fun x => rd δ1 i fun a => (g x [a]).fin δ1 := by
  unfold mM
  cases mo δ with
  | ok d δ1 =>
    cases d with
    | str x =>
      show (runs [.nm i] δ1).bind _ = _
      simp only [runs, Opd.run, R.bind, asStr, rd]
      cases h : δ1[i]? with
      | none => rfl
      | some o =>
        cases o with
        | none => rfl
        | some d => simp only [R.bind, gets, Opd.get, h, Option.join, Option.bind, Option.map]; rfl
    | non => rfl
    | bl i => rfl
    | int i => rfl
    | con k l => rfl
  | exc _ _ _ _ => rfl
  | bad => rfl
theorem ev_m1x {g : Str → List D → Res} : mM g mo [.ex m] δ = (mo δ).bind fun d δ1 => asStr d fun x => (m δ1).bind fun a δ2 => (g x [a.frz]).fin δ2 := by
  unfold mM
  cases mo δ with
  | ok d δ1 =>
    cases d with
    | str x =>
      show (runs [.ex m] δ1).bind _ = _
      simp only [runs, Opd.run, R.bind, asStr]
      cases m δ1 <;> rfl
    | non => rfl
    | bl i => rfl
    | int i => rfl
    | con k l => rfl
  | exc _ _ _ _ => rfl
  | bad => rfl
def asInt (d : D) (k : Int → R β) : R β := match d with
  | .int x => k x
  | _ => .bad
theorem asInt_int {x : Int} {kk : Int → R β} : asInt (.int x) kk = kk x := rfl
theorem part_none : runPart none δ = .ok none δ := rfl
theorem part_n : runPart (some (.nm i)) δ = rd δ i fun d => asInt d fun x => .ok (some x) δ := by
  unfold runPart rd
  simp only [runs, Opd.run]
  cases h : δ[i]? with
  | none => rfl
  | some o =>
    cases o with
    | none => rfl
    | some d =>
      simp only [R.bind, gets, Opd.get, h, Option.join, Option.bind, Option.map]
      cases d <;> rfl
theorem part_x : runPart (some (.ex m)) δ = (m δ).bind fun d δ1 => asInt d fun x => .ok (some x) δ1 := by
  unfold runPart
  simp only [runs, Opd.run]
  cases m δ with
  | ok d δ1 => cases d <;> rfl
  | exc _ _ _ _ => rfl
  | bad => rfl
theorem ev_sln {lo hi : Option Opd} : mSl (.nm i) lo hi δ = rd δ i fun _ => (runPart lo δ).bind fun a δ2 => (runPart hi δ2).bind fun b δ3 => rd δ3 i fun d => (fSl a b [d]).fin δ3 := by
  unfold mSl rd
  simp only [runs, Opd.run]
  cases h : δ[i]? with
  | none => rfl
  | some o =>
    cases o with
    | none => rfl
    | some d =>
      simp only [R.bind]
      cases runPart lo δ with
      | ok a δ2 =>
        simp only [R.bind]
        cases runPart hi δ2 with
        | ok b δ3 =>
          simp only [R.bind, gets, Opd.get]
          cases h2 : δ3[i]? with
          | none => rfl
          | some o2 =>
            cases o2 with
            | none => rfl
            | some d3 => rfl
        | exc _ _ _ _ => rfl
        | bad => rfl
      | exc _ _ _ _ => rfl
      | bad => rfl
theorem ev_slx {lo hi : Option Opd} : mSl (.ex m) lo hi δ = (m δ).bind fun d δ1 => (runPart lo δ1).bind fun a δ2 => (runPart hi δ2).bind fun b δ3 => (fSl a b [d.frz]).fin δ3 := by
  unfold mSl
  simp only [runs, Opd.run]
  cases m δ with
  | ok d δ1 => rfl
  | exc _ _ _ _ => rfl
  | bad => rfl
def asInt2 (l : List D) (k : Int → Int → R β) : R β := match int2 l with
  | some (i, j) => k i j
  | none => .bad
/-- a chain: the first two, then the third -/
theorem ev_chain {u v : Int → Int → Bool} {oa ob oc : Opd} : mChain u v oa ob oc δ = (mOp (fI2 (fun _ _ => true) fun i j => .tup [.int i, .int j, .bl (u i j)]) [oa, ob] δ).bind fun d δ1 => match d with
    | .con .tup [.int _, .int j, .bl q] => if q = true then mOp (fun l => match int1 l with
      | some k => .val (.bl (v j k))
      | none => .bad) [oc] δ1 else .ok (.bl false) δ1
    | _ => .bad := by
  unfold mChain mOp
  cases runs [oa, ob] δ with
  | ok l δ1 =>
    simp only [R.bind]
    cases hg : gets [oa, ob] l δ1 with
    | none => rfl
    | some xs =>
      simp only [Option.bind_some, fI2]
      cases hi : int2 xs with
      | none => rfl
      | some n =>
        obtain ⟨x, y⟩ := n
        simp only [if_true, Res.fin]
        by_cases hq : u x y = true
        · rw [if_pos hq, if_pos hq]
          cases hr : runs [oc] δ1 with
          | ok l2 δ2 =>
            simp only [hr]
            cases hg2 : gets [oc] l2 δ2 with
            | none => simp only [hg2, Option.bind_none]
            | some ys =>
              simp only [hg2, Option.bind_some]
              cases int1 ys <;> rfl
          | exc _ _ _ _ => simp only [hr]
          | bad => simp only [hr]
        · rw [if_neg hq, if_neg hq]
  | exc _ _ _ _ => rfl
  | bad => rfl
/-- a call by values -/
def app (mf : MF) (l : List D) (δ : Env) : R D := match mf l with
  | .ok d _ => .ok d δ
  | .exc c fs dp _ => .exc c fs dp δ
  | .bad => .bad
theorem app_of {mf : MF} {l : List D} {d : D} (h : Ret mf l d) : app mf l δ = .ok d δ := by
  obtain ⟨as, e, _⟩ := h
  unfold app
  rw [e]
variable {nN : Nat} {A : List Nat}
theorem mfOf_len {np : Nat} {l : List D} : (∀ d as, mfOf nN np A s l = .ok d as → as.length = np) ∧ (∀ c fs dp as, mfOf nN np A s l = .exc c fs dp as → as.length = np) := by
  unfold mfOf
  constructor
  · intro d as h
    cases hs : s (l.map some ++ List.replicate (nN - np) none) <;> rw [hs] at h <;> first | (cases h; exact mask_len _ _ _ _) | cases h
  · intro c fs dp as h
    cases hs : s (l.map some ++ List.replicate (nN - np) none) <;> rw [hs] at h <;> first | (cases h; exact mask_len _ _ _ _) | cases h
theorem ev_call1 : mCall (mfOf nN 1 A s) [.val m] δ = (m δ).bind fun a δ1 => app (mfOf nN 1 A s) [a] δ1 := by
  unfold mCall app
  simp only [runsA, Arg.run]
  cases m δ with
  | ok a δ1 =>
    simp only [R.bind]
    cases h : mfOf nN 1 A s [a] with
    | ok d as =>
      have := mfOf_len.1 _ _ h
      match as, this with
      | [_], _ => rfl
    | exc c fs dp as =>
      have := mfOf_len.2 _ _ _ _ h
      match as, this with
      | [_], _ => rfl
    | bad => rfl
  | exc _ _ _ _ => rfl
  | bad => rfl
theorem ev_call2 : mCall (mfOf nN 2 A s) [.val m1, .val m2] δ = (m1 δ).bind fun a δ1 => (m2 δ1).bind fun b δ2 => app (mfOf nN 2 A s) [a, b] δ2 := by
  unfold mCall app
  simp only [runsA, Arg.run]
  cases m1 δ with
  | ok a δ1 =>
    simp only [R.bind]
    cases m2 δ1 with
    | ok b δ2 =>
      simp only [R.bind]
      cases h : mfOf nN 2 A s [a, b] with
      | ok d as =>
        have := mfOf_len.1 _ _ h
        match as, this with
        | [_, _], _ => rfl
      | exc c fs dp as =>
        have := mfOf_len.2 _ _ _ _ h
        match as, this with
        | [_, _], _ => rfl
      | bad => rfl
    | exc _ _ _ _ => rfl
    | bad => rfl
  | exc _ _ _ _ => rfl
  | bad => rfl
theorem ev_call3 : mCall (mfOf nN 3 A s) [.val m1, .val m2, .val m3] δ = (m1 δ).bind fun a δ1 => (m2 δ1).bind fun b δ2 => (m3 δ2).bind fun c δ3 => app (mfOf nN 3 A s) [a, b, c] δ3 := by
  unfold mCall app
  simp only [runsA, Arg.run]
  cases m1 δ with
  | ok a δ1 =>
    simp only [R.bind]
    cases m2 δ1 with
    | ok b δ2 =>
      simp only [R.bind]
      cases m3 δ2 with
      | ok c δ3 =>
        simp only [R.bind]
        cases h : mfOf nN 3 A s [a, b, c] with
        | ok d as =>
          have := mfOf_len.1 _ _ h
          match as, this with
          | [_, _, _], _ => rfl
        | exc cc fs dp as =>
          have := mfOf_len.2 _ _ _ _ h
          match as, this with
          | [_, _, _], _ => rfl
        | bad => rfl
      | exc _ _ _ _ => rfl
      | bad => rfl
    | exc _ _ _ _ => rfl
    | bad => rfl
  | exc _ _ _ _ => rfl
  | bad => rfl
theorem ev_for {g : Tg} {mi : Env → R (List D)} : sFor g mi s δ = toS (mi δ) fun xs δ1 => loop g s xs δ1 := rfl
theorem ev_mseq : mSeq m δ = (m δ).bind fun d δ1 => match items d.frz with
    | some es => .ok es δ1
    | none => .bad := rfl
end
theorem rd_0 {β : Type} {d : D} {δ : Env} {k : D → R β} : rd (some d :: δ) 0 k = k d := rfl
theorem st_0 {y z : Option D} {δ : Env} : List.set (y :: δ) 0 z = z :: δ := rfl
theorem rd_1 {β : Type} {x0 : Option D} {d : D} {δ : Env} {k : D → R β} : rd (x0 :: some d :: δ) 1 k = k d := rfl
theorem st_1 {x0 : Option D} {y z : Option D} {δ : Env} : List.set (x0 :: y :: δ) 1 z = x0 :: z :: δ := rfl
theorem rd_2 {β : Type} {x0 x1 : Option D} {d : D} {δ : Env} {k : D → R β} : rd (x0 :: x1 :: some d :: δ) 2 k = k d := rfl
theorem st_2 {x0 x1 : Option D} {y z : Option D} {δ : Env} : List.set (x0 :: x1 :: y :: δ) 2 z = x0 :: x1 :: z :: δ := rfl
theorem rd_3 {β : Type} {x0 x1 x2 : Option D} {d : D} {δ : Env} {k : D → R β} : rd (x0 :: x1 :: x2 :: some d :: δ) 3 k = k d := rfl
theorem st_3 {x0 x1 x2 : Option D} {y z : Option D} {δ : Env} : List.set (x0 :: x1 :: x2 :: y :: δ) 3 z = x0 :: x1 :: x2 :: z :: δ := rfl
theorem rd_4 {β : Type} {x0 x1 x2 x3 : Option D} {d : D} {δ : Env} {k : D → R β} : rd (x0 :: x1 :: x2 :: x3 :: some d :: δ) 4 k = k d := rfl
theorem st_4 {x0 x1 x2 x3 : Option D} {y z : Option D} {δ : Env} : List.set (x0 :: x1 :: x2 :: x3 :: y :: δ) 4 z = x0 :: x1 :: x2 :: x3 :: z :: δ := rfl
theorem rd_5 {β : Type} {x0 x1 x2 x3 x4 : Option D} {d : D} {δ : Env} {k : D → R β} : rd (x0 :: x1 :: x2 :: x3 :: x4 :: some d :: δ) 5 k = k d := rfl
theorem st_5 {x0 x1 x2 x3 x4 : Option D} {y z : Option D} {δ : Env} : List.set (x0 :: x1 :: x2 :: x3 :: x4 :: y :: δ) 5 z = x0 :: x1 :: x2 :: x3 :: x4 :: z :: δ := rfl
theorem rd_6 {β : Type} {x0 x1 x2 x3 x4 x5 : Option D} {d : D} {δ : Env} {k : D → R β} : rd (x0 :: x1 :: x2 :: x3 :: x4 :: x5 :: some d :: δ) 6 k = k d := rfl
theorem st_6 {x0 x1 x2 x3 x4 x5 : Option D} {y z : Option D} {δ : Env} : List.set (x0 :: x1 :: x2 :: x3 :: x4 :: x5 :: y :: δ) 6 z = x0 :: x1 :: x2 :: x3 :: x4 :: x5 :: z :: δ := rfl
theorem rd_7 {β : Type} {x0 x1 x2 x3 x4 x5 x6 : Option D} {d : D} {δ : Env} {k : D → R β} : rd (x0 :: x1 :: x2 :: x3 :: x4 :: x5 :: x6 :: some d :: δ) 7 k = k d := rfl
theorem st_7 {x0 x1 x2 x3 x4 x5 x6 : Option D} {y z : Option D} {δ : Env} : List.set (x0 :: x1 :: x2 :: x3 :: x4 :: x5 :: x6 :: y :: δ) 7 z = x0 :: x1 :: x2 :: x3 :: x4 :: x5 :: x6 :: z :: δ := rfl
theorem rd_8 {β : Type} {x0 x1 x2 x3 x4 x5 x6 x7 : Option D} {d : D} {δ : Env} {k : D → R β} : rd (x0 :: x1 :: x2 :: x3 :: x4 :: x5 :: x6 :: x7 :: some d :: δ) 8 k = k d := rfl
theorem st_8 {x0 x1 x2 x3 x4 x5 x6 x7 : Option D} {y z : Option D} {δ : Env} : List.set (x0 :: x1 :: x2 :: x3 :: x4 :: x5 :: x6 :: x7 :: y :: δ) 8 z = x0 :: x1 :: x2 :: x3 :: x4 :: x5 :: x6 :: x7 :: z :: δ := rfl
theorem rd_9 {β : Type} {x0 x1 x2 x3 x4 x5 x6 x7 x8 : Option D} {d : D} {δ : Env} {k : D → R β} : rd (x0 :: x1 :: x2 :: x3 :: x4 :: x5 :: x6 :: x7 :: x8 :: some d :: δ) 9 k = k d := rfl
theorem st_9 {x0 x1 x2 x3 x4 x5 x6 x7 x8 : Option D} {y z : Option D} {δ : Env} : List.set (x0 :: x1 :: x2 :: x3 :: x4 :: x5 :: x6 :: x7 :: x8 :: y :: δ) 9 z = x0 :: x1 :: x2 :: x3 :: x4 :: x5 :: x6 :: x7 :: x8 :: z :: δ := rfl
theorem rd_10 {β : Type} {x0 x1 x2 x3 x4 x5 x6 x7 x8 x9 : Option D} {d : D} {δ : Env} {k : D → R β} : rd (x0 :: x1 :: x2 :: x3 :: x4 :: x5 :: x6 :: x7 :: x8 :: x9 :: some d :: δ) 10 k = k d := rfl
theorem st_10 {x0 x1 x2 x3 x4 x5 x6 x7 x8 x9 : Option D} {y z : Option D} {δ : Env} : List.set (x0 :: x1 :: x2 :: x3 :: x4 :: x5 :: x6 :: x7 :: x8 :: x9 :: y :: δ) 10 z = x0 :: x1 :: x2 :: x3 :: x4 :: x5 :: x6 :: x7 :: x8 :: x9 :: z :: δ := rfl
theorem rd_11 {β : Type} {x0 x1 x2 x3 x4 x5 x6 x7 x8 x9 x10 : Option D} {d : D} {δ : Env} {k : D → R β} : rd (x0 :: x1 :: x2 :: x3 :: x4 :: x5 :: x6 :: x7 :: x8 :: x9 :: x10 :: some d :: δ) 11 k = k d := rfl
theorem st_11 {x0 x1 x2 x3 x4 x5 x6 x7 x8 x9 x10 : Option D} {y z : Option D} {δ : Env} : List.set (x0 :: x1 :: x2 :: x3 :: x4 :: x5 :: x6 :: x7 :: x8 :: x9 :: x10 :: y :: δ) 11 z = x0 :: x1 :: x2 :: x3 :: x4 :: x5 :: x6 :: x7 :: x8 :: x9 :: x10 :: z :: δ := rfl
theorem rd_12 {β : Type} {x0 x1 x2 x3 x4 x5 x6 x7 x8 x9 x10 x11 : Option D} {d : D} {δ : Env} {k : D → R β} : rd (x0 :: x1 :: x2 :: x3 :: x4 :: x5 :: x6 :: x7 :: x8 :: x9 :: x10 :: x11 :: some d :: δ) 12 k = k d := rfl
theorem st_12 {x0 x1 x2 x3 x4 x5 x6 x7 x8 x9 x10 x11 : Option D} {y z : Option D} {δ : Env} : List.set (x0 :: x1 :: x2 :: x3 :: x4 :: x5 :: x6 :: x7 :: x8 :: x9 :: x10 :: x11 :: y :: δ) 12 z = x0 :: x1 :: x2 :: x3 :: x4 :: x5 :: x6 :: x7 :: x8 :: x9 :: x10 :: x11 :: z :: δ := rfl
theorem rd_13 {β : Type} {x0 x1 x2 x3 x4 x5 x6 x7 x8 x9 x10 x11 x12 : Option D} {d : D} {δ : Env} {k : D → R β} : rd (x0 :: x1 :: x2 :: x3 :: x4 :: x5 :: x6 :: x7 :: x8 :: x9 :: x10 :: x11 :: x12 :: some d :: δ) 13 k = k d := rfl
theorem st_13 {x0 x1 x2 x3 x4 x5 x6 x7 x8 x9 x10 x11 x12 : Option D} {y z : Option D} {δ : Env} : List.set (x0 :: x1 :: x2 :: x3 :: x4 :: x5 :: x6 :: x7 :: x8 :: x9 :: x10 :: x11 :: x12 :: y :: δ) 13 z = x0 :: x1 :: x2 :: x3 :: x4 :: x5 :: x6 :: x7 :: x8 :: x9 :: x10 :: x11 :: x12 :: z :: δ := rfl
theorem rd_14 {β : Type} {x0 x1 x2 x3 x4 x5 x6 x7 x8 x9 x10 x11 x12 x13 : Option D} {d : D} {δ : Env} {k : D → R β} : rd (x0 :: x1 :: x2 :: x3 :: x4 :: x5 :: x6 :: x7 :: x8 :: x9 :: x10 :: x11 :: x12 :: x13 :: some d :: δ) 14 k = k d := rfl
theorem st_14 {x0 x1 x2 x3 x4 x5 x6 x7 x8 x9 x10 x11 x12 x13 : Option D} {y z : Option D} {δ : Env} : List.set (x0 :: x1 :: x2 :: x3 :: x4 :: x5 :: x6 :: x7 :: x8 :: x9 :: x10 :: x11 :: x12 :: x13 :: y :: δ) 14 z = x0 :: x1 :: x2 :: x3 :: x4 :: x5 :: x6 :: x7 :: x8 :: x9 :: x10 :: x11 :: x12 :: x13 :: z :: δ := rfl
theorem rd_15 {β : Type} {x0 x1 x2 x3 x4 x5 x6 x7 x8 x9 x10 x11 x12 x13 x14 : Option D} {d : D} {δ : Env} {k : D → R β} : rd (x0 :: x1 :: x2 :: x3 :: x4 :: x5 :: x6 :: x7 :: x8 :: x9 :: x10 :: x11 :: x12 :: x13 :: x14 :: some d :: δ) 15 k = k d := rfl
theorem st_15 {x0 x1 x2 x3 x4 x5 x6 x7 x8 x9 x10 x11 x12 x13 x14 : Option D} {y z : Option D} {δ : Env} : List.set (x0 :: x1 :: x2 :: x3 :: x4 :: x5 :: x6 :: x7 :: x8 :: x9 :: x10 :: x11 :: x12 :: x13 :: x14 :: y :: δ) 15 z = x0 :: x1 :: x2 :: x3 :: x4 :: x5 :: x6 :: x7 :: x8 :: x9 :: x10 :: x11 :: x12 :: x13 :: x14 :: z :: δ := rfl
theorem rd_16 {β : Type} {x0 x1 x2 x3 x4 x5 x6 x7 x8 x9 x10 x11 x12 x13 x14 x15 : Option D} {d : D} {δ : Env} {k : D → R β} : rd (x0 :: x1 :: x2 :: x3 :: x4 :: x5 :: x6 :: x7 :: x8 :: x9 :: x10 :: x11 :: x12 :: x13 :: x14 :: x15 :: some d :: δ) 16 k = k d := rfl
theorem st_16 {x0 x1 x2 x3 x4 x5 x6 x7 x8 x9 x10 x11 x12 x13 x14 x15 : Option D} {y z : Option D} {δ : Env} : List.set (x0 :: x1 :: x2 :: x3 :: x4 :: x5 :: x6 :: x7 :: x8 :: x9 :: x10 :: x11 :: x12 :: x13 :: x14 :: x15 :: y :: δ) 16 z = x0 :: x1 :: x2 :: x3 :: x4 :: x5 :: x6 :: x7 :: x8 :: x9 :: x10 :: x11 :: x12 :: x13 :: x14 :: x15 :: z :: δ := rfl
theorem rd_17 {β : Type} {x0 x1 x2 x3 x4 x5 x6 x7 x8 x9 x10 x11 x12 x13 x14 x15 x16 : Option D} {d : D} {δ : Env} {k : D → R β} : rd (x0 :: x1 :: x2 :: x3 :: x4 :: x5 :: x6 :: x7 :: x8 :: x9 :: x10 :: x11 :: x12 :: x13 :: x14 :: x15 :: x16 :: some d :: δ) 17 k = k d := rfl
theorem st_17 {x0 x1 x2 x3 x4 x5 x6 x7 x8 x9 x10 x11 x12 x13 x14 x15 x16 : Option D} {y z : Option D} {δ : Env} : List.set (x0 :: x1 :: x2 :: x3 :: x4 :: x5 :: x6 :: x7 :: x8 :: x9 :: x10 :: x11 :: x12 :: x13 :: x14 :: x15 :: x16 :: y :: δ) 17 z = x0 :: x1 :: x2 :: x3 :: x4 :: x5 :: x6 :: x7 :: x8 :: x9 :: x10 :: x11 :: x12 :: x13 :: x14 :: x15 :: x16 :: z :: δ := rfl
theorem rd_18 {β : Type} {x0 x1 x2 x3 x4 x5 x6 x7 x8 x9 x10 x11 x12 x13 x14 x15 x16 x17 : Option D} {d : D} {δ : Env} {k : D → R β} : rd (x0 :: x1 :: x2 :: x3 :: x4 :: x5 :: x6 :: x7 :: x8 :: x9 :: x10 :: x11 :: x12 :: x13 :: x14 :: x15 :: x16 :: x17 :: some d :: δ) 18 k = k d := rfl
theorem st_18 {x0 x1 x2 x3 x4 x5 x6 x7 x8 x9 x10 x11 x12 x13 x14 x15 x16 x17 : Option D} {y z : Option D} {δ : Env} : List.set (x0 :: x1 :: x2 :: x3 :: x4 :: x5 :: x6 :: x7 :: x8 :: x9 :: x10 :: x11 :: x12 :: x13 :: x14 :: x15 :: x16 :: x17 :: y :: δ) 18 z = x0 :: x1 :: x2 :: x3 :: x4 :: x5 :: x6 :: x7 :: x8 :: x9 :: x10 :: x11 :: x12 :: x13 :: x14 :: x15 :: x16 :: x17 :: z :: δ := rfl
theorem rd_19 {β : Type} {x0 x1 x2 x3 x4 x5 x6 x7 x8 x9 x10 x11 x12 x13 x14 x15 x16 x17 x18 : Option D} {d : D} {δ : Env} {k : D → R β} : rd (x0 :: x1 :: x2 :: x3 :: x4 :: x5 :: x6 :: x7 :: x8 :: x9 :: x10 :: x11 :: x12 :: x13 :: x14 :: x15 :: x16 :: x17 :: x18 :: some d :: δ) 19 k = k d := rfl
theorem st_19 {x0 x1 x2 x3 x4 x5 x6 x7 x8 x9 x10 x11 x12 x13 x14 x15 x16 x17 x18 : Option D} {y z : Option D} {δ : Env} : List.set (x0 :: x1 :: x2 :: x3 :: x4 :: x5 :: x6 :: x7 :: x8 :: x9 :: x10 :: x11 :: x12 :: x13 :: x14 :: x15 :: x16 :: x17 :: x18 :: y :: δ) 19 z = x0 :: x1 :: x2 :: x3 :: x4 :: x5 :: x6 :: x7 :: x8 :: x9 :: x10 :: x11 :: x12 :: x13 :: x14 :: x15 :: x16 :: x17 :: x18 :: z :: δ := rfl
theorem rd_20 {β : Type} {x0 x1 x2 x3 x4 x5 x6 x7 x8 x9 x10 x11 x12 x13 x14 x15 x16 x17 x18 x19 : Option D} {d : D} {δ : Env} {k : D → R β} : rd (x0 :: x1 :: x2 :: x3 :: x4 :: x5 :: x6 :: x7 :: x8 :: x9 :: x10 :: x11 :: x12 :: x13 :: x14 :: x15 :: x16 :: x17 :: x18 :: x19 :: some d :: δ) 20 k = k d := rfl
theorem st_20 {x0 x1 x2 x3 x4 x5 x6 x7 x8 x9 x10 x11 x12 x13 x14 x15 x16 x17 x18 x19 : Option D} {y z : Option D} {δ : Env} : List.set (x0 :: x1 :: x2 :: x3 :: x4 :: x5 :: x6 :: x7 :: x8 :: x9 :: x10 :: x11 :: x12 :: x13 :: x14 :: x15 :: x16 :: x17 :: x18 :: x19 :: y :: δ) 20 z = x0 :: x1 :: x2 :: x3 :: x4 :: x5 :: x6 :: x7 :: x8 :: x9 :: x10 :: x11 :: x12 :: x13 :: x14 :: x15 :: x16 :: x17 :: x18 :: x19 :: z :: δ := rfl
theorem rd_21 {β : Type} {x0 x1 x2 x3 x4 x5 x6 x7 x8 x9 x10 x11 x12 x13 x14 x15 x16 x17 x18 x19 x20 : Option D} {d : D} {δ : Env} {k : D → R β} : rd (x0 :: x1 :: x2 :: x3 :: x4 :: x5 :: x6 :: x7 :: x8 :: x9 :: x10 :: x11 :: x12 :: x13 :: x14 :: x15 :: x16 :: x17 :: x18 :: x19 :: x20 :: some d :: δ) 21 k = k d := rfl
theorem st_21 {x0 x1 x2 x3 x4 x5 x6 x7 x8 x9 x10 x11 x12 x13 x14 x15 x16 x17 x18 x19 x20 : Option D} {y z : Option D} {δ : Env} : List.set (x0 :: x1 :: x2 :: x3 :: x4 :: x5 :: x6 :: x7 :: x8 :: x9 :: x10 :: x11 :: x12 :: x13 :: x14 :: x15 :: x16 :: x17 :: x18 :: x19 :: x20 :: y :: δ) 21 z = x0 :: x1 :: x2 :: x3 :: x4 :: x5 :: x6 :: x7 :: x8 :: x9 :: x10 :: x11 :: x12 :: x13 :: x14 :: x15 :: x16 :: x17 :: x18 :: x19 :: x20 :: z :: δ := rfl
theorem rd_22 {β : Type} {x0 x1 x2 x3 x4 x5 x6 x7 x8 x9 x10 x11 x12 x13 x14 x15 x16 x17 x18 x19 x20 x21 : Option D} {d : D} {δ : Env} {k : D → R β} : rd (x0 :: x1 :: x2 :: x3 :: x4 :: x5 :: x6 :: x7 :: x8 :: x9 :: x10 :: x11 :: x12 :: x13 :: x14 :: x15 :: x16 :: x17 :: x18 :: x19 :: x20 :: x21 :: some d :: δ) 22 k = k d := rfl
theorem st_22 {x0 x1 x2 x3 x4 x5 x6 x7 x8 x9 x10 x11 x12 x13 x14 x15 x16 x17 x18 x19 x20 x21 : Option D} {y z : Option D} {δ : Env} : List.set (x0 :: x1 :: x2 :: x3 :: x4 :: x5 :: x6 :: x7 :: x8 :: x9 :: x10 :: x11 :: x12 :: x13 :: x14 :: x15 :: x16 :: x17 :: x18 :: x19 :: x20 :: x21 :: y :: δ) 22 z = x0 :: x1 :: x2 :: x3 :: x4 :: x5 :: x6 :: x7 :: x8 :: x9 :: x10 :: x11 :: x12 :: x13 :: x14 :: x15 :: x16 :: x17 :: x18 :: x19 :: x20 :: x21 :: z :: δ := rfl
theorem rd_23 {β : Type} {x0 x1 x2 x3 x4 x5 x6 x7 x8 x9 x10 x11 x12 x13 x14 x15 x16 x17 x18 x19 x20 x21 x22 : Option D} {d : D} {δ : Env} {k : D → R β} : rd (x0 :: x1 :: x2 :: x3 :: x4 :: x5 :: x6 :: x7 :: x8 :: x9 :: x10 :: x11 :: x12 :: x13 :: x14 :: x15 :: x16 :: x17 :: x18 :: x19 :: x20 :: x21 :: x22 :: some d :: δ) 23 k = k d := rfl
theorem st_23 {x0 x1 x2 x3 x4 x5 x6 x7 x8 x9 x10 x11 x12 x13 x14 x15 x16 x17 x18 x19 x20 x21 x22 : Option D} {y z : Option D} {δ : Env} : List.set (x0 :: x1 :: x2 :: x3 :: x4 :: x5 :: x6 :: x7 :: x8 :: x9 :: x10 :: x11 :: x12 :: x13 :: x14 :: x15 :: x16 :: x17 :: x18 :: x19 :: x20 :: x21 :: x22 :: y :: δ) 23 z = x0 :: x1 :: x2 :: x3 :: x4 :: x5 :: x6 :: x7 :: x8 :: x9 :: x10 :: x11 :: x12 :: x13 :: x14 :: x15 :: x16 :: x17 :: x18 :: x19 :: x20 :: x21 :: x22 :: z :: δ := rfl

end DN

namespace K01
open PySem PySem.Spec PyProof.Rows L2 DN
/-! ### the text -/
def topS (i : Nat) : Stmt := PySem.Challenge.pw_lastingly_k01_words.main.body.getD i (.Pass ⟨0, 0, 0, 0⟩)
abbrev s_is_whole : Stmt := topS 6
theorem sc_is_whole : FnScope ["thing"] ["thing"] (defScope s_is_whole) := ⟨rfl, rfl, rfl, by decide +kernel, rfl, by decide +kernel, by decide +kernel⟩
abbrev s_is_among : Stmt := topS 7
theorem sc_is_among : FnScope ["thing", "least", "most"] ["thing", "least", "most"] (defScope s_is_among) := ⟨rfl, rfl, rfl, by decide +kernel, rfl, by decide +kernel, by decide +kernel⟩
abbrev s__has_only : Stmt := topS 11
theorem sc__has_only : FnScope ["text", "signs", "sign"] ["text", "signs"] (defScope s__has_only) := ⟨rfl, rfl, rfl, by decide +kernel, rfl, by decide +kernel, by decide +kernel⟩
abbrev s_is_name : Stmt := topS 8
theorem sc_is_name : FnScope ["thing"] ["thing"] (defScope s_is_name) := ⟨rfl, rfl, rfl, by decide +kernel, rfl, by decide +kernel, by decide +kernel⟩
abbrev s_number_of : Stmt := topS 9
theorem sc_number_of : FnScope ["word", "figures"] ["word"] (defScope s_number_of) := ⟨rfl, rfl, rfl, by decide +kernel, rfl, by decide +kernel, by decide +kernel⟩
abbrev s_words_of : Stmt := topS 10
theorem sc_words_of : FnScope ["row", "words"] ["row"] (defScope s_words_of) := ⟨rfl, rfl, rfl, by decide +kernel, rfl, by decide +kernel, by decide +kernel⟩
abbrev s__law_mixed : Stmt := topS 13
theorem sc__law_mixed : FnScope ["_law_cell", "_law_k"] ["_law_cell", "_law_k"] (defScope s__law_mixed) := ⟨rfl, rfl, rfl, by decide +kernel, rfl, by decide +kernel, by decide +kernel⟩
abbrev s__law_word : Stmt := topS 14
theorem sc__law_word : FnScope ["_law_number_here", "_law_signs", "_law_k"] ["_law_number_here", "_law_signs"] (defScope s__law_word) := ⟨rfl, rfl, rfl, by decide +kernel, rfl, by decide +kernel, by decide +kernel⟩
abbrev s__law_number : Stmt := topS 15
theorem sc__law_number : FnScope ["_law_word_here", "_law_figures", "_law_found", "_law_sign"] ["_law_word_here"] (defScope s__law_number) := ⟨rfl, rfl, rfl, by decide +kernel, rfl, by decide +kernel, by decide +kernel⟩
abbrev s__law_one : Stmt := topS 16
theorem sc__law_one : FnScope ["_law_word_here", "_law_letters", "_law_due", "_law_found", "_law_small", "_law_sign"] ["_law_word_here"] (defScope s__law_one) := ⟨rfl, rfl, rfl, by decide +kernel, rfl, by decide +kernel, by decide +kernel⟩
abbrev s__law_row : Stmt := topS 17
theorem sc__law_row : FnScope ["_law_words", "_law_number_here", "_law_row_here", "_law_turn", "_law_at", "_law_parts", "_law_found"] ["_law_words", "_law_number_here"] (defScope s__law_row) := ⟨rfl, rfl, rfl, by decide +kernel, rfl, by decide +kernel, by decide +kernel⟩
abbrev s_law : Stmt := topS 18
theorem sc_law : FnScope ["_law_script", "_law_words", "_law_cell", "_law_number_here", "_law_signs", "_law_own", "_law_word_here", "_law_odd", "_law_due", "_law_big"] ["_law_script"] (defScope s_law) := ⟨rfl, rfl, rfl, by decide +kernel, rfl, by decide +kernel, by decide +kernel⟩
/-- what the top has written -/
structure Tx (K : PySem.W.Frag) (mg : Str → Option Value) (ad : Nat → Addr) (fdd : Nat → FuncData) : Prop where
  F_is_whole : Fun K "is_whole" "is_whole" s_is_whole (ad 6) (fdd 6)
  g_is_whole : mg "is_whole" = some (.ref (ad 6))
  B_is_whole : Binds K (fdd 6) ["thing"] []
  F_is_among : Fun K "is_among" "is_among" s_is_among (ad 7) (fdd 7)
  g_is_among : mg "is_among" = some (.ref (ad 7))
  B_is_among : Binds K (fdd 7) ["thing", "least", "most"] []
  F__has_only : Fun K "_has_only" "_has_only" s__has_only (ad 11) (fdd 11)
  g__has_only : mg "_has_only" = some (.ref (ad 11))
  B__has_only : Binds K (fdd 11) ["text", "signs"] []
  F_is_name : Fun K "is_name" "is_name" s_is_name (ad 8) (fdd 8)
  g_is_name : mg "is_name" = some (.ref (ad 8))
  B_is_name : Binds K (fdd 8) ["thing"] []
  F_number_of : Fun K "number_of" "number_of" s_number_of (ad 9) (fdd 9)
  g_number_of : mg "number_of" = some (.ref (ad 9))
  B_number_of : Binds K (fdd 9) ["word"] []
  F_words_of : Fun K "words_of" "words_of" s_words_of (ad 10) (fdd 10)
  g_words_of : mg "words_of" = some (.ref (ad 10))
  B_words_of : Binds K (fdd 10) ["row"] []
  F__law_mixed : Fun K "_law_mixed" "_law_mixed" s__law_mixed (ad 13) (fdd 13)
  g__law_mixed : mg "_law_mixed" = some (.ref (ad 13))
  B__law_mixed : Binds K (fdd 13) ["_law_cell", "_law_k"] []
  F__law_word : Fun K "_law_word" "_law_word" s__law_word (ad 14) (fdd 14)
  g__law_word : mg "_law_word" = some (.ref (ad 14))
  B__law_word : Binds K (fdd 14) ["_law_number_here", "_law_signs"] []
  F__law_number : Fun K "_law_number" "_law_number" s__law_number (ad 15) (fdd 15)
  g__law_number : mg "_law_number" = some (.ref (ad 15))
  B__law_number : Binds K (fdd 15) ["_law_word_here"] []
  F__law_one : Fun K "_law_one" "_law_one" s__law_one (ad 16) (fdd 16)
  g__law_one : mg "_law_one" = some (.ref (ad 16))
  B__law_one : Binds K (fdd 16) ["_law_word_here"] []
  F__law_row : Fun K "_law_row" "_law_row" s__law_row (ad 17) (fdd 17)
  g__law_row : mg "_law_row" = some (.ref (ad 17))
  B__law_row : Binds K (fdd 17) ["_law_words", "_law_number_here"] []
  F_law : Fun K "law" "law" s_law (ad 18) (fdd 18)
  g_law : mg "law" = some (.ref (ad 18))
  B_law : Binds K (fdd 18) ["_law_script"] []
  b_all : mg "all" = none
  b_bool : mg "bool" = none
  b_int : mg "int" = none
  b_isinstance : mg "isinstance" = none
  b_len : mg "len" = none
  b_list : mg "list" = none
  b_range : mg "range" = none
  b_str : mg "str" = none
  b_sum : mg "sum" = none
  c_FIGURES : ∃ u, mg "FIGURES" = some u ∧ KD K (.str "0123456789") u
  c_LETTERS : ∃ u, mg "LETTERS" = some u ∧ KD K (.str "abcdefghijklmnopqrstuvwxyz") u
  c_MOST_FIGURES : ∃ u, mg "MOST_FIGURES" = some u ∧ KD K (.int 10) u
  c_MOST_LETTERS : ∃ u, mg "MOST_LETTERS" = some u ∧ KD K (.int 8) u
  c_NO_NAMES : ∃ u, mg "NO_NAMES" = some u ∧ KD K (.con .tup [(.str "any"), (.str "none"), (.str "at"), (.str "move"), (.str "box"), (.str "lend"), (.str "mend")]) u
section
variable {P : Program} {w : World} {K : PySem.W.Frag} {mg : Str → Option Value} {base : Heap} {ad : Nat → Addr} {fdd : Nat → FuncData}
def b_is_whole : MS := (sRet (mAndV (mOp (fIsi .int) [(.nm 0)]) (mNotV (mOp (fIsi .bool) [(.nm 0)]))))
def m_is_whole : MF := mfOf 1 1 [] b_is_whole
theorem cl_is_whole {m1 : M} {δ : DN.Env} : mCall m_is_whole [.val m1] δ = (m1 δ).bind fun a1 δ1 => app m_is_whole [a1] δ1 := ev_call1
theorem ok_is_whole (T : Tx K mg ad fdd) : FnOk P w K mg base (L2.CX P w) 1 (ad 6) (fdd 6) ["thing"] (spD K mg 1 m_is_whole) :=
  fn_ok (k := 0) T.F_is_whole sc_is_whole (by decide) fun cdv Ar outer s H E hr tk => dss_weak (A := _) (B := []) (m := b_is_whole) (dss_one (ds_ret (de_and (de_isi .int rfl T.b_isinstance rfl T.b_int (by decide +kernel) (pv 0)) (de_one (de_not (de_isi .bool rfl T.b_isinstance rfl T.b_bool (by decide +kernel) (pv 0))))))) (by decide)
def b_is_among : MS := (sSeq (sIf (mOr (mNot (mB (mCall m_is_whole [.val (mVar 0)]))) (mOr (mNot (mB (mCall m_is_whole [.val (mVar 1)]))) (mNot (mB (mCall m_is_whole [.val (mVar 2)]))))) (sRet (mC (.bl false))) (fun δ => .nx δ))
  (sRet (mChain (fun i j => decide (i ≤ j)) (fun i j => decide (i ≤ j)) (.nm 1) (.nm 0) (.nm 2))))
def m_is_among : MF := mfOf 3 3 [] b_is_among
theorem cl_is_among {m1 m2 m3 : M} {δ : DN.Env} : mCall m_is_among [.val m1, .val m2, .val m3] δ = (m1 δ).bind fun a1 δ1 => (m2 δ1).bind fun a2 δ2 => (m3 δ2).bind fun a3 δ3 => app m_is_among [a1, a2, a3] δ3 := ev_call3
theorem ok_is_among (T : Tx K mg ad fdd) : FnOk P w K mg base (L2.CX P w) 2 (ad 7) (fdd 7) ["thing", "least", "most"] (spD K mg 3 m_is_among) :=
  fn_ok (k := 1) T.F_is_among sc_is_among (by decide) fun cdv Ar outer s H E hr tk => dss_weak (A := _) (B := []) (m := b_is_among) (dss_cons (ds_if (dt_w (dw_or (dt_not' (dt_val (de_call (ok_is_whole T) (hr.mono (by decide)) rfl T.g_is_whole T.F_is_whole.kp T.B_is_whole tk ⟨(de_var (pv 0)), trivial⟩ rfl (star_all rfl)))) (dw_or (dt_not' (dt_val (de_call (ok_is_whole T) (hr.mono (by decide)) rfl T.g_is_whole T.F_is_whole.kp T.B_is_whole tk ⟨(de_var (pv 1)), trivial⟩ rfl (star_all rfl)))) (dw_or1 (dt_not' (dt_val (de_call (ok_is_whole T) (hr.mono (by decide)) rfl T.g_is_whole T.F_is_whole.kp T.B_is_whole tk ⟨(de_var (pv 2)), trivial⟩ rfl (star_all rfl)))))))) (dss_one (ds_ret de_bl)) dss_nil)
    (dss_one (ds_ret (de_chain ic_le ic_le (pv 1) (pv 0) (pv 2))))) (by decide)
def b__has_only : MS := (sRet (mOp fAll [(.ex (mLc (.nm 2) [2] (mSeq (mVar 0)) mYes (mOp (fIn false) [(.nm 2), (.nm 1)])))]))
def m__has_only : MF := mfOf 3 2 [2] b__has_only
theorem cl__has_only {m1 m2 : M} {δ : DN.Env} : mCall m__has_only [.val m1, .val m2] δ = (m1 δ).bind fun a1 δ1 => (m2 δ1).bind fun a2 δ2 => app m__has_only [a1, a2] δ2 := ev_call2
theorem ok__has_only (T : Tx K mg ad fdd) : FnOk P w K mg base (L2.CX P w) 1 (ad 11) (fdd 11) ["text", "signs"] (spD K mg 2 m__has_only) :=
  fn_ok (k := 0) T.F__has_only sc__has_only (by decide) fun cdv Ar outer s H E hr tk => dss_weak (A := _) (B := [2]) (m := b__has_only) (dss_one (ds_ret (de_all rfl rfl T.b_all (de_lc (own := [("sign", 2)]) rfl sc__has_only.nd (di_seq (de_var (pv 0))) (blkOk_by (own := [("sign", 2)]) (N := ["text", "signs", "sign"]) (sc := defScope s__has_only) (by decide +kernel)) (fun _ _ _ _ _ => (pg_name (i := 2) sc__has_only.nd rfl (Or.inl rfl))) (fun _ _ _ _ _ => dts_nil) (fun _ _ _ _ _ => (de_cmpD op_inD (pv 2) (pv 1))) (by decide))))) (by decide)
def b_is_name : MS := (sSeq (sIf (mOr (mNot (mB (mOp (fIsi .str) [(.nm 0)]))) (mNot (mB (mChain (fun i j => decide (i ≤ j)) (fun i j => decide (i ≤ j)) (.ex (mC (.int 1))) (.ex (mOp fLen [(.nm 0)])) (.ex (mC (.int 8))))))) (sRet (mC (.bl false))) (fun δ => .nx δ))
  (sRet (mAndV (mCall m__has_only [.val (mVar 0), .val (mC (.str "abcdefghijklmnopqrstuvwxyz"))]) (mOp (fIn true) [(.nm 0), (.ex (mC (.con .tup [(.str "any"), (.str "none"), (.str "at"), (.str "move"), (.str "box"), (.str "lend"), (.str "mend")])))]))))
def m_is_name : MF := mfOf 1 1 [] b_is_name
theorem cl_is_name {m1 : M} {δ : DN.Env} : mCall m_is_name [.val m1] δ = (m1 δ).bind fun a1 δ1 => app m_is_name [a1] δ1 := ev_call1
theorem ok_is_name (T : Tx K mg ad fdd) : FnOk P w K mg base (L2.CX P w) 2 (ad 8) (fdd 8) ["thing"] (spD K mg 1 m_is_name) :=
  fn_ok (k := 1) T.F_is_name sc_is_name (by decide) fun cdv Ar outer s H E hr tk => dss_weak (A := _) (B := []) (m := b_is_name) (dss_cons (ds_if (dt_w (dw_or (dt_not' (dt_val (de_isi .str rfl T.b_isinstance rfl T.b_str (by decide +kernel) (pv 0)))) (dw_or1 (dt_not' (dt_chain ic_le ic_le de_int (de_len rfl T.b_len (pv 0)) (de_globD rfl T.c_MOST_LETTERS)))))) (dss_one (ds_ret de_bl)) dss_nil)
    (dss_one (ds_ret (de_and (de_call (ok__has_only T) (hr.mono (by decide)) rfl T.g__has_only T.F__has_only.kp T.B__has_only tk ⟨(de_var (pv 0)), (de_globD rfl T.c_LETTERS), trivial⟩ rfl (star_all rfl)) (de_one (de_cmpD op_notInD (pv 0) (de_globD rfl T.c_NO_NAMES))))))) (by decide)
def b_number_of : MS := (sSeq (sIf (mNot (mB (mOp (fIsi .str) [(.nm 0)]))) (sRet (mC .non)) (fun δ => .nx δ))
  (sSeq (sSet 1 (mM fRmPre (mVar 0) [(.ex (mC (.str "-")))]))
  (sSeq (sIf (mOr (mNot (mB (mChain (fun i j => decide (i ≤ j)) (fun i j => decide (i ≤ j)) (.ex (mC (.int 1))) (.ex (mOp fLen [(.nm 1)])) (.ex (mC (.int 10)))))) (mNot (mB (mCall m__has_only [.val (mVar 1), .val (mC (.str "0123456789"))])))) (sRet (mC .non)) (fun δ => .nx δ))
  (sSeq (sIf (mAnd (mB (mM fStarts (mVar 1) [(.ex (mC (.str "0")))])) (mB (mOp fNe [(.nm 0), (.ex (mC (.str "0")))]))) (sRet (mC .non)) (fun δ => .nx δ))
  (sRet (mOp fInt [(.nm 0)]))))))
def m_number_of : MF := mfOf 2 1 [1] b_number_of
theorem cl_number_of {m1 : M} {δ : DN.Env} : mCall m_number_of [.val m1] δ = (m1 δ).bind fun a1 δ1 => app m_number_of [a1] δ1 := ev_call1
theorem ok_number_of (T : Tx K mg ad fdd) : FnOk P w K mg base (L2.CX P w) 2 (ad 9) (fdd 9) ["word"] (spD K mg 1 m_number_of) :=
  fn_ok (k := 1) T.F_number_of sc_number_of (by decide) fun cdv Ar outer s H E hr tk => dss_weak (A := _) (B := [1]) (m := b_number_of) (dss_cons (ds_if (dt_not' (dt_val (de_isi .str rfl T.b_isinstance rfl T.b_str (by decide +kernel) (pv 0)))) (dss_one (ds_ret de_non)) dss_nil)
    (dss_cons (ds_set (i := 1) sc_number_of.nd rfl (Or.inl rfl) (de_rmpre (de_var (pv 0)) de_str))
    (dss_cons (ds_if (dt_w (dw_or (dt_not' (dt_chain ic_le ic_le de_int (de_len rfl T.b_len (pv 1)) (de_globD rfl T.c_MOST_FIGURES))) (dw_or1 (dt_not' (dt_val (de_call (ok__has_only T) (hr.mono (by decide)) rfl T.g__has_only T.F__has_only.kp T.B__has_only tk ⟨(de_var (pv 1)), (de_globD rfl T.c_FIGURES), trivial⟩ rfl (star_all rfl))))))) (dss_one (ds_ret de_non)) dss_nil)
    (dss_cons (ds_if (dt_w (dw_and (dt_val (de_starts (de_var (pv 1)) de_str)) (dw_and1 (dt_cmpD (op_neDD hr.units) (pv 0) de_str)))) (dss_one (ds_ret de_non)) dss_nil)
    (dss_one (ds_ret (de_int1 rfl T.b_int (pv 0)))))))) (by decide)
def b_words_of : MS := (sSeq (sIf (mNot (mB (mOp (fIsi .str) [(.nm 0)]))) (sRet (mC .non)) (fun δ => .nx δ))
  (sSeq (sSet 1 (mM fSplit (mVar 0) [(.ex (mC (.str " ")))]))
  (sSeq (sIf (mB (mOp (fIn false) [(.ex (mC (.str ""))), (.nm 1)])) (sRet (mC .non)) (fun δ => .nx δ))
  (sRet (mMove 1)))))
def m_words_of : MF := mfOf 2 1 [1] b_words_of
theorem cl_words_of {m1 : M} {δ : DN.Env} : mCall m_words_of [.val m1] δ = (m1 δ).bind fun a1 δ1 => app m_words_of [a1] δ1 := ev_call1
theorem ok_words_of (T : Tx K mg ad fdd) : FnOk P w K mg base (L2.CX P w) 1 (ad 10) (fdd 10) ["row"] (spD K mg 1 m_words_of) :=
  fn_ok (k := 0) T.F_words_of sc_words_of (by decide) fun cdv Ar outer s H E hr tk => dss_weak (A := _) (B := [1]) (m := b_words_of) (dss_cons (ds_if (dt_not' (dt_val (de_isi .str rfl T.b_isinstance rfl T.b_str (by decide +kernel) (pv 0)))) (dss_one (ds_ret de_non)) dss_nil)
    (dss_cons (ds_set (i := 1) sc_words_of.nd rfl (Or.inl rfl) (de_split (de_var (pv 0)) de_str))
    (dss_cons (ds_if (dt_cmpD op_inD de_str (pv 1)) (dss_one (ds_ret de_non)) dss_nil)
    (dss_one (ds_ret (de_move (pv 1))))))) (by decide)
def b__law_mixed : MS := (sSeq (sSet 0 (mOp fAdd [(.ex (mOp fAdd [(.ex (mOp fMod [(.nm 0), (.ex (mC (.int 1000000007)))])), (.ex (mOp fMul [(.ex (mC (.int 7919))), (.nm 1)]))])), (.ex (mC (.int 13)))]))
  (sRet (mOp fMod [(.ex (mOp fMul [(.ex (mOp fMod [(.ex (mOp fMul [(.nm 0), (.nm 0)])), (.ex (mC (.int 1000000007)))])), (.ex (mC (.int 48271)))])), (.ex (mC (.int 2147483647)))])))
def m__law_mixed : MF := mfOf 2 2 [0] b__law_mixed
theorem cl__law_mixed {m1 m2 : M} {δ : DN.Env} : mCall m__law_mixed [.val m1, .val m2] δ = (m1 δ).bind fun a1 δ1 => (m2 δ1).bind fun a2 δ2 => app m__law_mixed [a1, a2] δ2 := ev_call2
theorem ok__law_mixed (T : Tx K mg ad fdd) : FnOk P w K mg base (L2.CX P w) 1 (ad 13) (fdd 13) ["_law_cell", "_law_k"] (spD K mg 2 m__law_mixed) :=
  fn_ok (k := 0) T.F__law_mixed sc__law_mixed (by decide) fun cdv Ar outer s H E hr tk => dss_weak (A := _) (B := [0]) (m := b__law_mixed) (dss_cons (ds_set (i := 0) sc__law_mixed.nd rfl (Or.inl rfl) (de_binD op_addD (de_binD op_addD (de_binD op_modD (pv 0) de_int) (de_binD op_mulD de_int (pv 1))) de_int))
    (dss_one (ds_ret (de_binD op_modD (de_binD op_mulD (de_binD op_modD (de_binD op_mulD (pv 0) (pv 0)) de_int) de_int) de_int)))) (by decide)
def b__law_word : MS := (sRet (mM fJoin (mC (.str "")) [(.ex (mLc (.nm 2) [2] (mRng1 (mCons (mOp fMod [(.nm 0), (.ex (mC (.int 13)))]) mNil)) mYes (mOp fIx [(.nm 1), (.ex (mOp fMod [(.ex (mCall m__law_mixed [.val (mVar 0), .val (mVar 2)])), (.ex (mOp fLen [(.nm 1)]))]))])))]))
def m__law_word : MF := mfOf 3 2 [2] b__law_word
theorem cl__law_word {m1 m2 : M} {δ : DN.Env} : mCall m__law_word [.val m1, .val m2] δ = (m1 δ).bind fun a1 δ1 => (m2 δ1).bind fun a2 δ2 => app m__law_word [a1, a2] δ2 := ev_call2
theorem ok__law_word (T : Tx K mg ad fdd) : FnOk P w K mg base (L2.CX P w) 2 (ad 14) (fdd 14) ["_law_number_here", "_law_signs"] (spD K mg 2 m__law_word) :=
  fn_ok (k := 1) T.F__law_word sc__law_word (by decide) fun cdv Ar outer s H E hr tk => dss_weak (A := _) (B := [2]) (m := b__law_word) (dss_one (ds_ret (de_join de_str (de_lc (own := [("_law_k", 2)]) rfl sc__law_word.nd (di_range1 rfl T.b_range (da_cons (de_binD op_modD (pv 0) de_int) da_nil)) (blkOk_by (own := [("_law_k", 2)]) (N := ["_law_number_here", "_law_signs", "_law_k"]) (sc := defScope s__law_word) (by decide +kernel)) (fun _ _ _ _ _ => (pg_name (i := 2) sc__law_word.nd rfl (Or.inl rfl))) (fun _ _ _ _ _ => dts_nil) (fun _ _ _ _ _ => (de_ix (pv 1) (de_binD op_modD (de_call (ok__law_mixed T) (hr.mono (by decide)) rfl T.g__law_mixed T.F__law_mixed.kp T.B__law_mixed takes0 ⟨(de_var (pv 0)), (de_var (pv 2)), trivial⟩ rfl (star_all rfl)) (de_len rfl T.b_len (pv 1))))) (by decide))))) (by decide)
def b__law_number : MS := (sSeq (sSet 1 (mIf (mB (mOp fEq [(.ex (mSl (.nm 0) none (some (.ex (mC (.int 1)))))), (.ex (mC (.str "-")))])) (mSl (.nm 0) (some (.ex (mC (.int 1)))) none) (mVar 0)))
  (sSeq (sIf (mOr (mNot (mB (mChain (fun i j => decide (i ≤ j)) (fun i j => decide (i ≤ j)) (.ex (mC (.int 1))) (.ex (mOp fLen [(.nm 1)])) (.ex (mC (.int 10)))))) (mB (mOp fNe [(.ex (mLc (.nm 3) [3] (mSeq (mVar 1)) (mB (mOp (fIn true) [(.nm 3), (.ex (mC (.str "0123456789")))])) (mVar 3))), (.ex (mLst mNil))]))) (sRet (mC .non)) (fun δ => .nx δ))
  (sSeq (sIf (mAnd (mB (mOp fEq [(.ex (mOp fIx [(.nm 1), (.ex (mC (.int 0)))])), (.ex (mC (.str "0")))])) (mB (mOp fNe [(.nm 0), (.ex (mC (.str "0")))]))) (sRet (mC .non)) (fun δ => .nx δ))
  (sSeq (sSet 2 (mC (.int 0)))
  (sSeq (sFor (.nm 3) (mSeq (mVar 1)) (sSet 2 (mOp fAdd [(.ex (mOp fMul [(.nm 2), (.ex (mC (.int 10)))])), (.ex (mM fIndexS (mC (.str "0123456789")) [(.nm 3)]))])))
  (sRet (mIf (mB (mOp fEq [(.nm 1), (.nm 0)])) (mVar 2) (mOp fSub [(.ex (mC (.int 0))), (.nm 2)]))))))))
def m__law_number : MF := mfOf 4 1 [1, 2, 3] b__law_number
theorem cl__law_number {m1 : M} {δ : DN.Env} : mCall m__law_number [.val m1] δ = (m1 δ).bind fun a1 δ1 => app m__law_number [a1] δ1 := ev_call1
theorem ok__law_number (T : Tx K mg ad fdd) : FnOk P w K mg base (L2.CX P w) 1 (ad 15) (fdd 15) ["_law_word_here"] (spD K mg 1 m__law_number) :=
  fn_ok (k := 0) T.F__law_number sc__law_number (by decide) fun cdv Ar outer s H E hr tk => dss_weak (A := _) (B := [1, 2, 3]) (m := b__law_number) (dss_cons (ds_set (i := 1) sc__law_number.nd rfl (Or.inl rfl) (de_if (dt_cmpD (op_eqDD hr.units) (de_slice (pv 0) trivial de_int) de_str) (de_slice (pv 0) de_int trivial) (de_var (pv 0))))
    (dss_cons (ds_if (dt_w (dw_or (dt_not' (dt_chain ic_le ic_le de_int (de_len rfl T.b_len (pv 1)) de_int)) (dw_or1 (dt_cmpD (op_neDD hr.units) (de_lc (own := [("_law_sign", 3)]) rfl sc__law_number.nd (di_seq (de_var (pv 1))) (blkOk_by (own := [("_law_sign", 3)]) (N := ["_law_word_here", "_law_figures", "_law_found", "_law_sign"]) (sc := defScope s__law_number) (by decide +kernel)) (fun _ _ _ _ _ => (pg_name (i := 3) sc__law_number.nd rfl (Or.inl rfl))) (fun _ _ _ _ _ => (dts_one (dt_cmpD op_notInD (pv 3) de_str))) (fun _ _ _ _ _ => (de_var (pv 3))) (by decide)) (de_lst da_nil))))) (dss_one (ds_ret de_non)) dss_nil)
    (dss_cons (ds_if (dt_w (dw_and (dt_cmpD (op_eqDD hr.units) (de_ix (pv 1) de_int) de_str) (dw_and1 (dt_cmpD (op_neDD hr.units) (pv 0) de_str)))) (dss_one (ds_ret de_non)) dss_nil)
    (dss_cons (ds_set (i := 2) sc__law_number.nd rfl (Or.inl rfl) de_int)
    (dss_cons (ds_for (g := (.nm 3)) (passes_of rfl) rfl (di_seq (de_var (pv 1))) (pg_name (i := 3) sc__law_number.nd rfl (Or.inl rfl)) (dss_one (ds_set (i := 2) sc__law_number.nd rfl (Or.inl rfl) (de_binD op_addD (de_binD op_mulD (pv 2) de_int) (de_indexS rfl tk de_str (pv 3))))))
    (dss_one (ds_ret (de_if (dt_cmpD (op_eqDD hr.units) (pv 1) (pv 0)) (de_var (pv 2)) (de_binD op_subD de_int (pv 2)))))))))) (by decide)
def b__law_one : MS := (sSeq (sSet 1 (mLc (.nm 5) [5] (mSeq (mVar 0)) (mB (mOp (fIn false) [(.nm 5), (.ex (mC (.str "abcdefghijklmnopqrstuvwxyz")))])) (mVar 5)))
  (sSeq (sSet 2 (mCall m__law_number [.val (mVar 0)]))
  (sSeq (sSet 3 (mCall m_number_of [.val (mVar 0)]))
  (sSeq (sIf (mOr (mB (mOp (fIsi .bool) [(.nm 3)])) (mOr (mB (mOp fNe [(.nm 3), (.nm 2)])) (mB (mOp fNe [(.ex (mOp (fIs false) [(.nm 3), (.ex (mC .non))])), (.ex (mOp (fIs false) [(.nm 2), (.ex (mC .non))]))])))) (sRet (mC (.bl false))) (fun δ => .nx δ))
  (sSeq (sSet 4 (mAndV (mOp fEq [(.ex (mOp fLen [(.nm 1)])), (.ex (mOp fLen [(.nm 0)]))]) (mChain (fun i j => decide (i ≤ j)) (fun i j => decide (i ≤ j)) (.ex (mC (.int 1))) (.ex (mOp fLen [(.nm 0)])) (.ex (mC (.int 8))))))
  (sRet (mOp fEq [(.ex (mCall m_is_name [.val (mVar 0)])), (.ex (mAndV (mVar 4) (mOp (fIn true) [(.nm 0), (.ex (mLst (mCons (mC (.str "any")) (mCons (mC (.str "none")) (mCons (mC (.str "at")) (mCons (mC (.str "move")) (mCons (mC (.str "box")) (mCons (mC (.str "lend")) (mCons (mC (.str "mend")) mNil)))))))))])))])))))))
def m__law_one : MF := mfOf 6 1 [1, 2, 3, 4, 5] b__law_one
theorem cl__law_one {m1 : M} {δ : DN.Env} : mCall m__law_one [.val m1] δ = (m1 δ).bind fun a1 δ1 => app m__law_one [a1] δ1 := ev_call1
theorem ok__law_one (T : Tx K mg ad fdd) : FnOk P w K mg base (L2.CX P w) 3 (ad 16) (fdd 16) ["_law_word_here"] (spD K mg 1 m__law_one) :=
  fn_ok (k := 2) T.F__law_one sc__law_one (by decide) fun cdv Ar outer s H E hr tk => dss_weak (A := _) (B := [1, 2, 3, 4, 5]) (m := b__law_one) (dss_cons (ds_setLc (i := 1) (own := [("_law_sign", 5)]) rfl sc__law_one.nd rfl rfl (sw_true rfl rfl rfl (by decide +kernel)) (di_seq (de_var (pv 0))) (blkOk_by (own := [("_law_sign", 5)]) (N := ["_law_word_here", "_law_letters", "_law_due", "_law_found", "_law_small", "_law_sign"]) (sc := defScope s__law_one) (by decide +kernel)) (fun _ _ _ _ _ => (pg_name (i := 5) sc__law_one.nd rfl (Or.inl rfl))) (fun _ _ _ _ _ => (dts_one (dt_cmpD op_inD (pv 5) de_str))) (fun _ _ _ _ _ => (de_var (pv 5))) (by decide))
    (dss_cons (ds_set (i := 2) sc__law_one.nd rfl (Or.inl rfl) (de_call (ok__law_number T) (hr.mono (by decide)) rfl T.g__law_number T.F__law_number.kp T.B__law_number tk ⟨(de_var (pv 0)), trivial⟩ rfl (star_all rfl)))
    (dss_cons (ds_set (i := 3) sc__law_one.nd rfl (Or.inl rfl) (de_call (ok_number_of T) (hr.mono (by decide)) rfl T.g_number_of T.F_number_of.kp T.B_number_of tk ⟨(de_var (pv 0)), trivial⟩ rfl (star_all rfl)))
    (dss_cons (ds_if (dt_w (dw_or (dt_val (de_isi .bool rfl T.b_isinstance rfl T.b_bool (by decide +kernel) (pv 3))) (dw_or (dt_cmpD (op_neDD hr.units) (pv 3) (pv 2)) (dw_or1 (dt_cmpD (op_neDD hr.units) (de_cmpD op_isD (pv 3) de_non) (de_cmpD op_isD (pv 2) de_non)))))) (dss_one (ds_ret de_bl)) dss_nil)
    (dss_cons (ds_set (i := 4) sc__law_one.nd rfl (Or.inl rfl) (de_and (de_cmpD (op_eqDD hr.units) (de_len rfl T.b_len (pv 1)) (de_len rfl T.b_len (pv 0))) (de_one (de_chain ic_le ic_le de_int (de_len rfl T.b_len (pv 0)) de_int))))
    (dss_one (ds_ret (de_cmpD (op_eqDD hr.units) (de_call (ok_is_name T) (hr.mono (by decide)) rfl T.g_is_name T.F_is_name.kp T.B_is_name tk ⟨(de_var (pv 0)), trivial⟩ rfl (star_all rfl)) (de_and (de_var (pv 4)) (de_one (de_cmpD op_notInD (pv 0) (de_lst (da_cons de_str (da_cons de_str (da_cons de_str (da_cons de_str (da_cons de_str (da_cons de_str (da_cons de_str da_nil))))))))))))))))))) (by decide)
def b__law_row : MS := (sSeq (sSet 2 (mM fJoin (mC (.str " ")) [(.nm 0)]))
  (sSeq (sFor (.nm 3) (mRng1 (mCons (mC (.int 2)) mNil)) (sSeq (sSet 6 (mCall m_words_of [.val (mVar 2)]))
  (sSeq (sIf (mOr (mNot (mB (mOp (fIsi .list) [(.nm 6)]))) (mB (mOp fNe [(.nm 6), (.nm 0)]))) (sRet (mC (.bl false))) (fun δ => .nx δ))
  (sApp 6 (mC (.str "x"))))))
  (sSeq (sSet 4 (mOp fMod [(.nm 1), (.ex (mOp fAdd [(.ex (mOp fLen [(.nm 2)])), (.ex (mC (.int 1)))]))]))
  (sSeq (sSet 5 (mM fSplit (mOp fAdd [(.ex (mOp fAdd [(.ex (mSl (.nm 2) none (some (.nm 4)))), (.ex (mC (.str " ")))])), (.ex (mSl (.nm 2) (some (.nm 4)) none))]) [(.ex (mC (.str " ")))]))
  (sRet (mOp fEq [(.ex (mCall m_words_of [.val (mOp fAdd [(.ex (mOp fAdd [(.ex (mSl (.nm 2) none (some (.nm 4)))), (.ex (mC (.str " ")))])), (.ex (mSl (.nm 2) (some (.nm 4)) none))])])), (.ex (mIf (mB (mOp (fIn false) [(.ex (mC (.str ""))), (.nm 5)])) (mC .non) (mVar 5)))]))))))
def m__law_row : MF := mfOf 7 2 [2, 3, 4, 5, 6] b__law_row
theorem cl__law_row {m1 m2 : M} {δ : DN.Env} : mCall m__law_row [.val m1, .val m2] δ = (m1 δ).bind fun a1 δ1 => (m2 δ1).bind fun a2 δ2 => app m__law_row [a1, a2] δ2 := ev_call2
theorem ok__law_row (T : Tx K mg ad fdd) : FnOk P w K mg base (L2.CX P w) 2 (ad 17) (fdd 17) ["_law_words", "_law_number_here"] (spD K mg 2 m__law_row) :=
  fn_ok (k := 1) T.F__law_row sc__law_row (by decide) fun cdv Ar outer s H E hr tk => dss_weak (A := _) (B := [2, 3, 4, 5, 6]) (m := b__law_row) (dss_cons (ds_set (i := 2) sc__law_row.nd rfl (Or.inl rfl) (de_join de_str (pv 0)))
    (dss_cons (ds_for (g := (.nm 3)) (passes_of rfl) rfl (di_range1 rfl T.b_range (da_cons de_int da_nil)) (pg_name (i := 3) sc__law_row.nd rfl (Or.inl rfl)) (dss_cons (ds_set (i := 6) sc__law_row.nd rfl (Or.inl rfl) (de_call (ok_words_of T) (hr.mono (by decide)) rfl T.g_words_of T.F_words_of.kp T.B_words_of tk ⟨(de_var (pv 2)), trivial⟩ rfl (star_all rfl)))
    (dss_cons (ds_if (dt_w (dw_or (dt_not' (dt_val (de_isi .list rfl T.b_isinstance rfl T.b_list (by decide +kernel) (pv 6)))) (dw_or1 (dt_cmpD (op_neDD hr.units) (pv 6) (pv 0))))) (dss_one (ds_ret de_bl)) dss_nil)
    (dss_one (ds_app (pv 6) de_str)))))
    (dss_cons (ds_set (i := 4) sc__law_row.nd rfl (Or.inl rfl) (de_binD op_modD (pv 1) (de_binD op_addD (de_len rfl T.b_len (pv 2)) de_int)))
    (dss_cons (ds_set (i := 5) sc__law_row.nd rfl (Or.inl rfl) (de_split (de_binD op_addD (de_binD op_addD (de_slice (pv 2) trivial (pv 4)) de_str) (de_slice (pv 2) (pv 4) trivial)) de_str))
    (dss_one (ds_ret (de_cmpD (op_eqDD hr.units) (de_call (ok_words_of T) (hr.mono (by decide)) rfl T.g_words_of T.F_words_of.kp T.B_words_of tk ⟨(de_binD op_addD (de_binD op_addD (de_slice (pv 2) trivial (pv 4)) de_str) (de_slice (pv 2) (pv 4) trivial)), trivial⟩ rfl (star_all rfl)) (de_if (dt_cmpD op_inD de_str (pv 5)) de_non (de_var (pv 5)))))))))) (by decide)
def b_law : MS := (sSeq (sSet 1 (mLst mNil))
  (sSeq (sFor (.nm 2) (mSeq (mOp fAdd [(.ex (mSl (.nm 0) none (some (.ex (mC (.int 63)))))), (.ex (mLst (mCons (mOp fSum [(.nm 0)]) mNil)))])) (sSeq (sSet 3 (mCall m__law_mixed [.val (mVar 2), .val (mC (.int 1))]))
  (sSeq (sFor (.nm 4) (mSeq (mTup (mCons (mC (.str "0123456789")) (mCons (mC (.str "abcdefghijklmnopqrstuvwxyz")) (mCons (mC (.str "01a")) (mCons (mC (.str "0 9+-.'")) (mCons (mC (.str "Ab{}`z\n")) mNil))))))) (sSeq (sSet 6 (mCall m__law_word [.val (mVar 3), .val (mVar 4)]))
  (sIf (mOr (mNot (mB (mCall m__law_one [.val (mVar 6)]))) (mNot (mB (mCall m__law_one [.val (mOp fAdd [(.ex (mC (.str "-"))), (.nm 6)])])))) (sRet (mC (.bl false))) (fun δ => .nx δ))))
  (sSeq (sSet 5 (mOp fIx [(.ex (mLst (mCons (mC (.str "any")) (mCons (mC (.str "none")) (mCons (mC (.str "at")) (mCons (mC (.str "move")) (mCons (mC (.str "box")) (mCons (mC (.str "lend")) (mCons (mC (.str "mend")) mNil))))))))), (.ex (mOp fMod [(.nm 3), (.ex (mC (.int 7)))]))]))
  (sSeq (sFor (.nm 6) (mSeq (mLst (mCons (mOp fStr [(.nm 3)]) (mCons (mOp fAdd [(.ex (mC (.str "-"))), (.ex (mOp fStr [(.ex (mOp fMod [(.nm 3), (.ex (mC (.int 50)))]))]))]) (mCons (mVar 5) (mCons (mOp fAdd [(.nm 5), (.ex (mC (.str "s")))]) (mCons (mOp fAdd [(.ex (mC (.str "0"))), (.ex (mOp fStr [(.ex (mOp fMod [(.nm 3), (.ex (mC (.int 100)))]))]))]) (mCons (mOp fStr [(.ex (mOp fMul [(.nm 3), (.ex (mC (.int 9)))]))]) mNil)))))))) (sIf (mNot (mB (mCall m__law_one [.val (mVar 6)]))) (sRet (mC (.bl false))) (fun δ => .nx δ)))
  (sSeq (sSet 1 (mOp fAdd [(.nm 1), (.ex (mLst (mCons (mOp fAdd [(.ex (mC (.str "a"))), (.ex (mCall m__law_word [.val (mVar 3), .val (mC (.str "b9+\n"))]))]) (mCons (mOp fStr [(.ex (mOp fMod [(.nm 3), (.ex (mC (.int 99)))]))]) mNil))))]))
  (sSeq (sSet 7 (mOp fIx [(.ex (mLst (mCons (mC .non) (mCons (mC (.bl true)) (mCons (mC (.int 7)) (mCons (mLst mNil) (mCons (mLst (mCons (mC (.str "1")) mNil)) (mCons mDic (mCons (mTup (mCons (mC (.str "a")) mNil)) (mCons (mOp fNeg [(.ex (mC (.int 2)))]) mNil)))))))))), (.ex (mOp fMod [(.nm 2), (.ex (mC (.int 8)))]))]))
  (sSeq (sIf (mOr (mB (mOp (fIs true) [(.ex (mCall m_number_of [.val (mVar 7)])), (.ex (mC .non))])) (mOr (mB (mOp (fIs true) [(.ex (mCall m_words_of [.val (mVar 7)])), (.ex (mC .non))])) (mB (mOp (fIs true) [(.ex (mCall m_is_name [.val (mVar 7)])), (.ex (mC (.bl false)))])))) (sRet (mC (.bl false))) (fun δ => .nx δ))
  (sSeq (sSet 8 (mOp (fIn false) [(.ex (mOp fMod [(.nm 2), (.ex (mC (.int 8)))])), (.ex (mTup (mCons (mC (.int 2)) (mCons (mC (.int 7)) mNil))))]))
  (sSeq (sIf (mOr (mB (mOp fNe [(.ex (mCall m_is_whole [.val (mVar 7)])), (.nm 8)])) (mOr (mB (mOp fNe [(.ex (mCall m_is_among [.val (mVar 7), .val (mOp fNeg [(.ex (mC (.int 2)))]), .val (mC (.int 7))])), (.nm 8)])) (mB (mOp (fIs true) [(.ex (mCall m_is_among [.val (mVar 7), .val (mOp fNeg [(.ex (mC (.int 1)))]), .val (mC (.int 6))])), (.ex (mC (.bl false)))])))) (sRet (mC (.bl false))) (fun δ => .nx δ))
  (sSeq (sSet 9 (mOp fMod [(.nm 2), (.ex (mOp fPow [(.ex (mC (.int 10))), (.ex (mC (.int 60)))]))]))
  (sIf (mOr (mB (mOp (fIs true) [(.ex (mCall m_is_among [.val (mVar 9), .val (mOp fSub [(.nm 9), (.ex (mC (.int 1)))]), .val (mVar 9)])), (.ex (mC (.bl true)))])) (mB (mOp (fIs true) [(.ex (mCall m_is_among [.val (mVar 9), .val (mOp fAdd [(.nm 9), (.ex (mC (.int 1)))]), .val (mOp fAdd [(.nm 9), (.ex (mC (.int 2)))])])), (.ex (mC (.bl false)))]))) (sRet (mC (.bl false))) (fun δ => .nx δ)))))))))))))
  (sRet (mAndV (mOp (fIs false) [(.ex (mCall m_words_of [.val (mC (.str ""))])), (.ex (mC .non))]) (mCall m__law_row [.val (mVar 1), .val (mCall m__law_mixed [.val (mOp fSum [(.nm 0)]), .val (mC (.int 2))])])))))
def m_law : MF := mfOf 10 1 [1, 2, 3, 4, 5, 6, 7, 8, 9] b_law
theorem cl_law {m1 : M} {δ : DN.Env} : mCall m_law [.val m1] δ = (m1 δ).bind fun a1 δ1 => app m_law [a1] δ1 := ev_call1
theorem ok_law (T : Tx K mg ad fdd) : FnOk P w K mg base (L2.CX P w) 4 (ad 18) (fdd 18) ["_law_script"] (spD K mg 1 m_law) :=
  fn_ok (k := 3) T.F_law sc_law (by decide) fun cdv Ar outer s H E hr tk => dss_weak (A := _) (B := [1, 2, 3, 4, 5, 6, 7, 8, 9]) (m := b_law) (dss_cons (ds_set (i := 1) sc_law.nd rfl (Or.inl rfl) (de_lst da_nil))
    (dss_cons (ds_for (g := (.nm 2)) (passes_of rfl) rfl (di_seq (de_binD op_addD (de_slice (pv 0) trivial de_int) (de_lst (da_cons (de_sum rfl rfl T.b_sum (pv 0)) da_nil)))) (pg_name (i := 2) sc_law.nd rfl (Or.inl rfl)) (dss_cons (ds_set (i := 3) sc_law.nd rfl (Or.inl rfl) (de_call (ok__law_mixed T) (hr.mono (by decide)) rfl T.g__law_mixed T.F__law_mixed.kp T.B__law_mixed tk ⟨(de_var (pv 2)), de_int, trivial⟩ rfl (star_all rfl)))
    (dss_cons (ds_for (g := (.nm 4)) (passes_of rfl) rfl (di_seq (de_tup (da_cons de_str (da_cons de_str (da_cons de_str (da_cons de_str (da_cons de_str da_nil))))))) (pg_name (i := 4) sc_law.nd rfl (Or.inl rfl)) (dss_cons (ds_set (i := 6) sc_law.nd rfl (Or.inl rfl) (de_call (ok__law_word T) (hr.mono (by decide)) rfl T.g__law_word T.F__law_word.kp T.B__law_word tk ⟨(de_var (pv 3)), (de_var (pv 4)), trivial⟩ rfl (star_all rfl)))
    (dss_one (ds_if (dt_w (dw_or (dt_not' (dt_val (de_call (ok__law_one T) (hr.mono (by decide)) rfl T.g__law_one T.F__law_one.kp T.B__law_one tk ⟨(de_var (pv 6)), trivial⟩ rfl (star_all rfl)))) (dw_or1 (dt_not' (dt_val (de_call (ok__law_one T) (hr.mono (by decide)) rfl T.g__law_one T.F__law_one.kp T.B__law_one tk ⟨(de_binD op_addD de_str (pv 6)), trivial⟩ rfl (star_all rfl))))))) (dss_one (ds_ret de_bl)) dss_nil))))
    (dss_cons (ds_set (i := 5) sc_law.nd rfl (Or.inl rfl) (de_ix (de_lst (da_cons de_str (da_cons de_str (da_cons de_str (da_cons de_str (da_cons de_str (da_cons de_str (da_cons de_str da_nil)))))))) (de_binD op_modD (pv 3) de_int)))
    (dss_cons (ds_for (g := (.nm 6)) (passes_of rfl) rfl (di_seq (de_lst (da_cons (de_str1 rfl T.b_str (pv 3)) (da_cons (de_binD op_addD de_str (de_str1 rfl T.b_str (de_binD op_modD (pv 3) de_int))) (da_cons (de_var (pv 5)) (da_cons (de_binD op_addD (pv 5) de_str) (da_cons (de_binD op_addD de_str (de_str1 rfl T.b_str (de_binD op_modD (pv 3) de_int))) (da_cons (de_str1 rfl T.b_str (de_binD op_mulD (pv 3) de_int)) da_nil)))))))) (pg_name (i := 6) sc_law.nd rfl (Or.inl rfl)) (dss_one (ds_if (dt_not' (dt_val (de_call (ok__law_one T) (hr.mono (by decide)) rfl T.g__law_one T.F__law_one.kp T.B__law_one tk ⟨(de_var (pv 6)), trivial⟩ rfl (star_all rfl)))) (dss_one (ds_ret de_bl)) dss_nil)))
    (dss_cons (ds_set (i := 1) sc_law.nd rfl (Or.inl rfl) (de_binD op_addD (pv 1) (de_lst (da_cons (de_binD op_addD de_str (de_call (ok__law_word T) (hr.mono (by decide)) rfl T.g__law_word T.F__law_word.kp T.B__law_word tk ⟨(de_var (pv 3)), de_str, trivial⟩ rfl (star_all rfl))) (da_cons (de_str1 rfl T.b_str (de_binD op_modD (pv 3) de_int)) da_nil)))))
    (dss_cons (ds_set (i := 7) sc_law.nd rfl (Or.inl rfl) (de_ix (de_lst (da_cons de_non (da_cons de_bl (da_cons de_int (da_cons (de_lst da_nil) (da_cons (de_lst (da_cons de_str da_nil)) (da_cons de_dic0 (da_cons (de_tup (da_cons de_str da_nil)) (da_cons (de_neg de_int) da_nil))))))))) (de_binD op_modD (pv 2) de_int)))
    (dss_cons (ds_if (dt_w (dw_or (dt_cmpD op_isNotD (de_call (ok_number_of T) (hr.mono (by decide)) rfl T.g_number_of T.F_number_of.kp T.B_number_of tk ⟨(de_var (pv 7)), trivial⟩ rfl (star_all rfl)) de_non) (dw_or (dt_cmpD op_isNotD (de_call (ok_words_of T) (hr.mono (by decide)) rfl T.g_words_of T.F_words_of.kp T.B_words_of tk ⟨(de_var (pv 7)), trivial⟩ rfl (star_all rfl)) de_non) (dw_or1 (dt_cmpD op_isNotD (de_call (ok_is_name T) (hr.mono (by decide)) rfl T.g_is_name T.F_is_name.kp T.B_is_name tk ⟨(de_var (pv 7)), trivial⟩ rfl (star_all rfl)) de_bl))))) (dss_one (ds_ret de_bl)) dss_nil)
    (dss_cons (ds_set (i := 8) sc_law.nd rfl (Or.inl rfl) (de_cmpD op_inD (de_binD op_modD (pv 2) de_int) (de_tup (da_cons de_int (da_cons de_int da_nil)))))
    (dss_cons (ds_if (dt_w (dw_or (dt_cmpD (op_neDD hr.units) (de_call (ok_is_whole T) (hr.mono (by decide)) rfl T.g_is_whole T.F_is_whole.kp T.B_is_whole tk ⟨(de_var (pv 7)), trivial⟩ rfl (star_all rfl)) (pv 8)) (dw_or (dt_cmpD (op_neDD hr.units) (de_call (ok_is_among T) (hr.mono (by decide)) rfl T.g_is_among T.F_is_among.kp T.B_is_among tk ⟨(de_var (pv 7)), (de_neg de_int), de_int, trivial⟩ rfl (star_all rfl)) (pv 8)) (dw_or1 (dt_cmpD op_isNotD (de_call (ok_is_among T) (hr.mono (by decide)) rfl T.g_is_among T.F_is_among.kp T.B_is_among tk ⟨(de_var (pv 7)), (de_neg de_int), de_int, trivial⟩ rfl (star_all rfl)) de_bl))))) (dss_one (ds_ret de_bl)) dss_nil)
    (dss_cons (ds_set (i := 9) sc_law.nd rfl (Or.inl rfl) (de_binD op_modD (pv 2) (de_binD op_powD de_int de_int)))
    (dss_one (ds_if (dt_w (dw_or (dt_cmpD op_isNotD (de_call (ok_is_among T) (hr.mono (by decide)) rfl T.g_is_among T.F_is_among.kp T.B_is_among tk ⟨(de_var (pv 9)), (de_binD op_subD (pv 9) de_int), (de_var (pv 9)), trivial⟩ rfl (star_all rfl)) de_bl) (dw_or1 (dt_cmpD op_isNotD (de_call (ok_is_among T) (hr.mono (by decide)) rfl T.g_is_among T.F_is_among.kp T.B_is_among tk ⟨(de_var (pv 9)), (de_binD op_addD (pv 9) de_int), (de_binD op_addD (pv 9) de_int), trivial⟩ rfl (star_all rfl)) de_bl)))) (dss_one (ds_ret de_bl)) dss_nil)))))))))))))
    (dss_one (ds_ret (de_and (de_cmpD op_isD (de_call (ok_words_of T) (hr.mono (by decide)) rfl T.g_words_of T.F_words_of.kp T.B_words_of tk ⟨de_str, trivial⟩ rfl (star_all rfl)) de_non) (de_one (de_call (ok__law_row T) (hr.mono (by decide)) rfl T.g__law_row T.F__law_row.kp T.B__law_row tk ⟨(de_var (pv 1)), (de_call (ok__law_mixed T) (hr.mono (by decide)) rfl T.g__law_mixed T.F__law_mixed.kp T.B__law_mixed tk ⟨(de_sum rfl rfl T.b_sum (pv 0)), de_int, trivial⟩ rfl (star_all rfl)), trivial⟩ rfl (star_all rfl)))))))) (by decide)
end
end K01

namespace K01
open PySem PySem.Spec L2 DN TL
theorem fI2_v {C : Int → Int → Bool} {g : Int → Int → D} {i j : Int} (h : C i j = true) : fI2 C g [.int i, .int j] = .val (g i j) := by
  show (if C i j = true then Res.val (g i j) else .bad) = _
  rw [if_pos h]
theorem ap_whole_i (i : Int) (δ : DN.Env) : app m_is_whole [.int i] δ = .ok (.bl true) δ := app_of (ret_rt (δ := [some (.int i)]) rfl rfl)
theorem ap_among (i a b : Int) (δ : DN.Env) : app m_is_among [.int i, .int a, .int b] δ = .ok (.bl (decide (a ≤ i) && decide (i ≤ b))) δ := by
  refine app_of (ret_rt rfl (δ := [some (.int i), some (.int a), some (.int b)]) ?_)
  unfold b_is_among
  simp only [ev_seq, at_nx, at_rt, toS_ok, bind_ok, ev_if, ev_set, ev_ret, ev_drop, ev_var, ev_move, ev_c, ev_nil, ev_cons, ev_tup, ev_lst, ev_B, asBl_bl, ev_and, ev_or, ev_not, ev_ifx, ev_andV, ev_orV, ev_notV, ev_op1n, ev_op1x, ev_op2nn, ev_op2nx, ev_op2xn, ev_op2xx, fin_val, fin_new, fin_ite, asStr_str, ev_m0, ev_m1n, ev_m1x, asInt_int, part_none, part_n, part_x, ev_sln, ev_slx, ev_chain, rd_0, st_0, rd_1, st_1, rd_2, st_2, rd_3, st_3, rd_4, st_4, rd_5, st_5, rd_6, st_6, rd_7, st_7, rd_8, st_8, rd_9, st_9, rd_10, st_10, rd_11, st_11, D.frz, D.frzs, Kd.frz, Md.sh', Nk.kd, List.map_cons, List.map_nil, List.replicate_zero, List.replicate_succ, List.cons_append, List.nil_append, List.length_cons, List.length_nil, Nat.reduceAdd, Nat.reduceSub, Nat.reduceLT, if_true, if_false, ite_true, ite_false, reduceIte, Bool.not_true, Bool.not_false, Bool.false_eq_true, eq_self, cl_is_whole, ap_whole_i, fI2_v, int1]
  cases decide (a ≤ i) with
  | true => simp only [ev_seq, at_nx, at_rt, toS_ok, bind_ok, ev_if, ev_set, ev_ret, ev_drop, ev_var, ev_move, ev_c, ev_nil, ev_cons, ev_tup, ev_lst, ev_B, asBl_bl, ev_and, ev_or, ev_not, ev_ifx, ev_andV, ev_orV, ev_notV, ev_op1n, ev_op1x, ev_op2nn, ev_op2nx, ev_op2xn, ev_op2xx, fin_val, fin_new, fin_ite, asStr_str, ev_m0, ev_m1n, ev_m1x, asInt_int, part_none, part_n, part_x, ev_sln, ev_slx, ev_chain, rd_0, st_0, rd_1, st_1, rd_2, st_2, rd_3, st_3, rd_4, st_4, rd_5, st_5, rd_6, st_6, rd_7, st_7, rd_8, st_8, rd_9, st_9, rd_10, st_10, rd_11, st_11, D.frz, D.frzs, Kd.frz, Md.sh', Nk.kd, List.map_cons, List.map_nil, List.replicate_zero, List.replicate_succ, List.cons_append, List.nil_append, List.length_cons, List.length_nil, Nat.reduceAdd, Nat.reduceSub, Nat.reduceLT, if_true, if_false, ite_true, ite_false, reduceIte, Bool.not_true, Bool.not_false, Bool.false_eq_true, eq_self, int1, Bool.true_and]
  | false => simp only [ev_seq, at_nx, at_rt, toS_ok, bind_ok, ev_if, ev_set, ev_ret, ev_drop, ev_var, ev_move, ev_c, ev_nil, ev_cons, ev_tup, ev_lst, ev_B, asBl_bl, ev_and, ev_or, ev_not, ev_ifx, ev_andV, ev_orV, ev_notV, ev_op1n, ev_op1x, ev_op2nn, ev_op2nx, ev_op2xn, ev_op2xx, fin_val, fin_new, fin_ite, asStr_str, ev_m0, ev_m1n, ev_m1x, asInt_int, part_none, part_n, part_x, ev_sln, ev_slx, ev_chain, rd_0, st_0, rd_1, st_1, rd_2, st_2, rd_3, st_3, rd_4, st_4, rd_5, st_5, rd_6, st_6, rd_7, st_7, rd_8, st_8, rd_9, st_9, rd_10, st_10, rd_11, st_11, D.frz, D.frzs, Kd.frz, Md.sh', Nk.kd, List.map_cons, List.map_nil, List.replicate_zero, List.replicate_succ, List.cons_append, List.nil_append, List.length_cons, List.length_nil, Nat.reduceAdd, Nat.reduceSub, Nat.reduceLT, if_true, if_false, ite_true, ite_false, reduceIte, Bool.not_true, Bool.not_false, Bool.false_eq_true, eq_self, Bool.false_and]
/-! ### signs -/
theorem tl_signs (z : Str) : signs z = (tl z).map fun c => D.str ⟨#[c]⟩ := rfl
theorem sign_tl (c : Nat) : tl (⟨#[c]⟩ : Str) = [c] := rfl
/-- all signs among some -/
def allIn (z y : Str) : Bool := (tl z).all fun c => decide (c ∈ tl y)
theorem fIn_sign (neg : Bool) (c : Nat) (y : Str) : fIn neg [.str ⟨#[c]⟩, .str y] = .val (.bl (if neg then !decide (c ∈ tl y) else decide (c ∈ tl y))) := rfl
theorem ap_has_only (z y : Str) (hz : z.length ≤ 100000) (δ : DN.Env) : app m__has_only [.str z, .str y] δ = .ok (.bl (allIn z y)) δ := by
  refine app_of (ret_rt rfl (δ := [some (.str z), some (.str y), none]) ?_)
  unfold b__has_only
  have e : mLc (.nm 2) [2] (mSeq (mVar 0)) mYes (mOp (fIn false) [(.nm 2), (.nm 1)]) [some (.str z), some (.str y), none] = .ok (.lst .own (((tl z).map fun c => decide (c ∈ tl y)).map .bl)) [some (.str z), some (.str y), none] := by
    have h := loopC_map (g := .nm 2) (is := [2]) (m := mOp (fIn false) [(.nm 2), (.nm 1)]) (δ := [some (.str z), some (.str y), none]) (f := fun x => match x with | .str ⟨#[c]⟩ => .bl (decide (c ∈ tl y)) | _ => .non) (signs z) [] (fun x hx => by
      rw [tl_signs] at hx
      obtain ⟨c, hc, rfl⟩ := List.mem_map.mp hx
      exact ⟨[some (.str z), some (.str y), some (.str ⟨#[c]⟩)], [some (.str z), some (.str y), some (.str ⟨#[c]⟩)], rfl, rfl, rfl, rfl⟩) (by
      have : (signs z).length = z.length := by
        rw [tl_signs, List.length_map, len_tl]
      rw [List.length_nil, Nat.zero_add, this]
      exact Nat.le_trans hz (by decide))
    show ((loopC (.nm 2) [2] mYes (mOp (fIn false) [(.nm 2), (.nm 1)]) (signs z) [some (.str z), some (.str y), none] []).bind fun acc δ2 => R.ok (D.lst .own acc) (restore [2] [none] δ2)) = _
    rw [h]
    show R.ok (D.lst .own ([] ++ (signs z).map _)) _ = _
    rw [List.nil_append, tl_signs, List.map_map, List.map_map]
    rfl
  have hp : D.pures (((tl z).map fun c => decide (c ∈ tl y)).map D.bl) = true := by
    induction ((tl z).map fun c => decide (c ∈ tl y)) with
    | nil => rfl
    | cons b l ih => exact ih
  have hf : fAll [.con (.lst .sh) (((tl z).map fun c => decide (c ∈ tl y)).map D.bl)] = .val (.bl (allIn z y)) := by
    show (match blsD (((tl z).map fun c => decide (c ∈ tl y)).map D.bl) with
      | some l => Res.val (.bl (l.all id))
      | none => .bad) = _
    rw [blsD_map]
    show Res.val (.bl (List.all _ id)) = _
    rw [List.all_map]
    rfl
  simp only [ev_seq, at_nx, at_rt, toS_ok, bind_ok, ev_if, ev_set, ev_ret, ev_drop, ev_var, ev_move, ev_c, ev_nil, ev_cons, ev_tup, ev_lst, ev_B, asBl_bl, ev_and, ev_or, ev_not, ev_ifx, ev_andV, ev_orV, ev_notV, ev_op1n, ev_op1x, ev_op2nn, ev_op2nx, ev_op2xn, ev_op2xx, fin_val, fin_new, fin_ite, asStr_str, ev_m0, ev_m1n, ev_m1x, asInt_int, part_none, part_n, part_x, ev_sln, ev_slx, ev_chain, rd_0, st_0, rd_1, st_1, rd_2, st_2, rd_3, st_3, rd_4, st_4, rd_5, st_5, rd_6, st_6, rd_7, st_7, rd_8, st_8, rd_9, st_9, rd_10, st_10, rd_11, st_11, D.frz, D.frzs, Kd.frz, Md.sh', Nk.kd, List.map_cons, List.map_nil, List.replicate_zero, List.replicate_succ, List.cons_append, List.nil_append, List.length_cons, List.length_nil, Nat.reduceAdd, Nat.reduceSub, Nat.reduceLT, if_true, if_false, ite_true, ite_false, reduceIte, Bool.not_true, Bool.not_false, Bool.false_eq_true, eq_self, e, frzs_of_pure _ hp, hf]
def noNames : List D := [.str "any", .str "none", .str "at", .str "move", .str "box", .str "lend", .str "mend"]
def letters : Str := "abcdefghijklmnopqrstuvwxyz"
def digits : Str := "0123456789"
def short (n : Int) (w : Str) : Bool := decide (1 ≤ (w.length : Int)) && decide ((w.length : Int) ≤ n)
def isName (w : Str) : Bool := short 8 w && (allIn w letters && !inD (.str w) noNames)
theorem len_ok {w : Str} (h : w.length ≤ 100000) : fLen [.str w] = .val (.int (w.length : Nat)) := by
  show (match (if w.length ≤ sizeLine then some w.length else none) with
    | some n => Res.val (.int (n : Int))
    | none => .bad) = _
  rw [if_pos (Nat.le_trans h (by decide))]
theorem fIn_names (w : Str) : fIn true [.str w, .con .tup noNames] = .val (.bl (!inD (.str w) noNames)) := rfl
theorem isi_str (w : Str) : fIsi .str [.str w] = .val (.bl true) := rfl
theorem chain_v (n : Int) (w : Str) (δ : DN.Env) : (if decide (1 ≤ (w.length : Int)) = true then (R.ok (D.bl (decide ((w.length : Int) ≤ n))) δ : R D) else .ok (.bl false) δ) = .ok (.bl (short n w)) δ := by
  unfold short
  cases decide (1 ≤ (w.length : Int)) <;> rfl
theorem ap_is_name (w : Str) (hw : w.length ≤ 100000) (δ : DN.Env) : app m_is_name [.str w] δ = .ok (.bl (isName w)) δ := by
  refine app_of (ret_rt rfl (δ := [some (.str w)]) ?_)
  unfold b_is_name isName
  simp only [ev_seq, at_nx, at_rt, toS_ok, bind_ok, ev_if, ev_set, ev_ret, ev_drop, ev_var, ev_move, ev_c, ev_nil, ev_cons, ev_tup, ev_lst, ev_B, asBl_bl, ev_and, ev_or, ev_not, ev_ifx, ev_andV, ev_orV, ev_notV, ev_op1n, ev_op1x, ev_op2nn, ev_op2nx, ev_op2xn, ev_op2xx, fin_val, fin_new, fin_ite, asStr_str, ev_m0, ev_m1n, ev_m1x, asInt_int, part_none, part_n, part_x, ev_sln, ev_slx, ev_chain, rd_0, st_0, rd_1, st_1, rd_2, st_2, rd_3, st_3, rd_4, st_4, rd_5, st_5, rd_6, st_6, rd_7, st_7, rd_8, st_8, rd_9, st_9, rd_10, st_10, rd_11, st_11, D.frz, D.frzs, Kd.frz, Md.sh', Nk.kd, List.map_cons, List.map_nil, List.replicate_zero, List.replicate_succ, List.cons_append, List.nil_append, List.length_cons, List.length_nil, Nat.reduceAdd, Nat.reduceSub, Nat.reduceLT, if_true, if_false, ite_true, ite_false, reduceIte, Bool.not_true, Bool.not_false, Bool.false_eq_true, eq_self, isi_str, fI2_v, len_ok hw, int1, chain_v, cl__has_only]
  cases hs : short 8 w with
  | false => simp only [ev_seq, at_nx, at_rt, toS_ok, bind_ok, ev_if, ev_set, ev_ret, ev_drop, ev_var, ev_move, ev_c, ev_nil, ev_cons, ev_tup, ev_lst, ev_B, asBl_bl, ev_and, ev_or, ev_not, ev_ifx, ev_andV, ev_orV, ev_notV, ev_op1n, ev_op1x, ev_op2nn, ev_op2nx, ev_op2xn, ev_op2xx, fin_val, fin_new, fin_ite, asStr_str, ev_m0, ev_m1n, ev_m1x, asInt_int, part_none, part_n, part_x, ev_sln, ev_slx, ev_chain, rd_0, st_0, rd_1, st_1, rd_2, st_2, rd_3, st_3, rd_4, st_4, rd_5, st_5, rd_6, st_6, rd_7, st_7, rd_8, st_8, rd_9, st_9, rd_10, st_10, rd_11, st_11, D.frz, D.frzs, Kd.frz, Md.sh', Nk.kd, List.map_cons, List.map_nil, List.replicate_zero, List.replicate_succ, List.cons_append, List.nil_append, List.length_cons, List.length_nil, Nat.reduceAdd, Nat.reduceSub, Nat.reduceLT, if_true, if_false, ite_true, ite_false, reduceIte, Bool.not_true, Bool.not_false, Bool.false_eq_true, eq_self, Bool.false_and]
  | true =>
    simp only [ev_seq, at_nx, at_rt, toS_ok, bind_ok, ev_if, ev_set, ev_ret, ev_drop, ev_var, ev_move, ev_c, ev_nil, ev_cons, ev_tup, ev_lst, ev_B, asBl_bl, ev_and, ev_or, ev_not, ev_ifx, ev_andV, ev_orV, ev_notV, ev_op1n, ev_op1x, ev_op2nn, ev_op2nx, ev_op2xn, ev_op2xx, fin_val, fin_new, fin_ite, asStr_str, ev_m0, ev_m1n, ev_m1x, asInt_int, part_none, part_n, part_x, ev_sln, ev_slx, ev_chain, rd_0, st_0, rd_1, st_1, rd_2, st_2, rd_3, st_3, rd_4, st_4, rd_5, st_5, rd_6, st_6, rd_7, st_7, rd_8, st_8, rd_9, st_9, rd_10, st_10, rd_11, st_11, D.frz, D.frzs, Kd.frz, Md.sh', Nk.kd, List.map_cons, List.map_nil, List.replicate_zero, List.replicate_succ, List.cons_append, List.nil_append, List.length_cons, List.length_nil, Nat.reduceAdd, Nat.reduceSub, Nat.reduceLT, if_true, if_false, ite_true, ite_false, reduceIte, Bool.not_true, Bool.not_false, Bool.false_eq_true, eq_self, cl__has_only]
    have e := ap_has_only w letters hw
    unfold letters at e
    simp only [ev_seq, at_nx, at_rt, toS_ok, bind_ok, ev_if, ev_set, ev_ret, ev_drop, ev_var, ev_move, ev_c, ev_nil, ev_cons, ev_tup, ev_lst, ev_B, asBl_bl, ev_and, ev_or, ev_not, ev_ifx, ev_andV, ev_orV, ev_notV, ev_op1n, ev_op1x, ev_op2nn, ev_op2nx, ev_op2xn, ev_op2xx, fin_val, fin_new, fin_ite, asStr_str, ev_m0, ev_m1n, ev_m1x, asInt_int, part_none, part_n, part_x, ev_sln, ev_slx, ev_chain, rd_0, st_0, rd_1, st_1, rd_2, st_2, rd_3, st_3, rd_4, st_4, rd_5, st_5, rd_6, st_6, rd_7, st_7, rd_8, st_8, rd_9, st_9, rd_10, st_10, rd_11, st_11, D.frz, D.frzs, Kd.frz, Md.sh', Nk.kd, List.map_cons, List.map_nil, List.replicate_zero, List.replicate_succ, List.cons_append, List.nil_append, List.length_cons, List.length_nil, Nat.reduceAdd, Nat.reduceSub, Nat.reduceLT, if_true, if_false, ite_true, ite_false, reduceIte, Bool.not_true, Bool.not_false, Bool.false_eq_true, eq_self, e]
    cases ha : allIn w letters with
    | false =>
      unfold letters at ha
      simp only [ev_seq, at_nx, at_rt, toS_ok, bind_ok, ev_if, ev_set, ev_ret, ev_drop, ev_var, ev_move, ev_c, ev_nil, ev_cons, ev_tup, ev_lst, ev_B, asBl_bl, ev_and, ev_or, ev_not, ev_ifx, ev_andV, ev_orV, ev_notV, ev_op1n, ev_op1x, ev_op2nn, ev_op2nx, ev_op2xn, ev_op2xx, fin_val, fin_new, fin_ite, asStr_str, ev_m0, ev_m1n, ev_m1x, asInt_int, part_none, part_n, part_x, ev_sln, ev_slx, ev_chain, rd_0, st_0, rd_1, st_1, rd_2, st_2, rd_3, st_3, rd_4, st_4, rd_5, st_5, rd_6, st_6, rd_7, st_7, rd_8, st_8, rd_9, st_9, rd_10, st_10, rd_11, st_11, D.frz, D.frzs, Kd.frz, Md.sh', Nk.kd, List.map_cons, List.map_nil, List.replicate_zero, List.replicate_succ, List.cons_append, List.nil_append, List.length_cons, List.length_nil, Nat.reduceAdd, Nat.reduceSub, Nat.reduceLT, if_true, if_false, ite_true, ite_false, reduceIte, Bool.not_true, Bool.not_false, Bool.false_eq_true, eq_self, ha, Bool.false_and, Bool.true_and]
    | true =>
      unfold letters at ha
      have e2 := fIn_names w
      unfold noNames at e2
      simp only [ev_seq, at_nx, at_rt, toS_ok, bind_ok, ev_if, ev_set, ev_ret, ev_drop, ev_var, ev_move, ev_c, ev_nil, ev_cons, ev_tup, ev_lst, ev_B, asBl_bl, ev_and, ev_or, ev_not, ev_ifx, ev_andV, ev_orV, ev_notV, ev_op1n, ev_op1x, ev_op2nn, ev_op2nx, ev_op2xn, ev_op2xx, fin_val, fin_new, fin_ite, asStr_str, ev_m0, ev_m1n, ev_m1x, asInt_int, part_none, part_n, part_x, ev_sln, ev_slx, ev_chain, rd_0, st_0, rd_1, st_1, rd_2, st_2, rd_3, st_3, rd_4, st_4, rd_5, st_5, rd_6, st_6, rd_7, st_7, rd_8, st_8, rd_9, st_9, rd_10, st_10, rd_11, st_11, D.frz, D.frzs, Kd.frz, Md.sh', Nk.kd, List.map_cons, List.map_nil, List.replicate_zero, List.replicate_succ, List.cons_append, List.nil_append, List.length_cons, List.length_nil, Nat.reduceAdd, Nat.reduceSub, Nat.reduceLT, if_true, if_false, ite_true, ite_false, reduceIte, Bool.not_true, Bool.not_false, Bool.false_eq_true, eq_self, ha, e2]
      rfl
/-! ### figures -/
def figL : List Nat → List Nat
  | 45 :: r => r
  | l => l
def figS (w : Str) : Str := ⟨(figL (tl w)).toArray⟩
theorem tl_fig (w : Str) : tl (figS w) = figL (tl w) := rfl
theorem figL_minus (r : List Nat) : figL (45 :: r) = r := rfl
theorem figL_other {l : List Nat} (h : ∀ r, l ≠ 45 :: r) : figL l = l := by
  unfold figL
  split
  · exact (h _ rfl).elim
  · rfl
theorem figL_le (l : List Nat) : (figL l).length ≤ l.length := by
  unfold figL
  split
  · exact Nat.le_succ _
  · exact Nat.le_refl _
theorem sub_head (w : Str) (c : Nat) : Builtin.Str.subAt w ⟨#[c]⟩ 0 = (match tl w with
    | d :: _ => d == c
    | [] => false) := by
  unfold Builtin.Str.subAt
  have e : (w.cps.extract 0 (0 + (⟨#[c]⟩ : Str).length)).toList = (tl w).take 1 := by
    simp [Str.length]
  cases h : tl w with
  | nil =>
    rw [h] at e
    have : w.cps.extract 0 (0 + (⟨#[c]⟩ : Str).length) = #[] := by
      apply Array.ext'
      rw [e]
      rfl
    rw [this]
    rfl
  | cons d r =>
    rw [h] at e
    have : w.cps.extract 0 (0 + (⟨#[c]⟩ : Str).length) = #[d] := by
      apply Array.ext'
      rw [e]
      rfl
    rw [this]
    show (#[d] == #[c]) = (d == c)
    simp
theorem minus_str : ("-" : Str) = ⟨#[45]⟩ := by decide +kernel
theorem zero_str : ("0" : Str) = ⟨#[48]⟩ := by decide +kernel
theorem rm_fig (w : Str) : Txt.removeprefix w "-" = figS w := by
  apply ext_tl
  rw [tl_fig, minus_str]
  unfold Txt.removeprefix
  rw [sub_head]
  cases h : tl w with
  | nil =>
    show tl (Txt.affix w (if false = true then _ else none)) = figL []
    rw [if_neg Bool.false_ne_true]
    exact h
  | cons d r =>
    show tl (Txt.affix w (if (d == 45) = true then some (1, w.length) else none)) = figL (d :: r)
    by_cases hd : d = 45
    · subst hd
      rw [if_pos (by decide), figL_minus]
      unfold Txt.affix
      have hl : w.length = r.length + 1 := by rw [len_tl, h, List.length_cons]
      dsimp only
      rw [if_neg (by rw [hl]; simp), tl_strSub_end, h]
      rfl
    · rw [if_neg (by simpa using hd), figL_other (fun r' e => hd (by cases e; rfl))]
      exact h
theorem starts0 (w : Str) : Txt.startswith w "0" = (match tl w with
    | d :: _ => d == 48
    | [] => false) := by
  rw [zero_str]
  unfold Txt.startswith
  rw [sub_head]
  cases h : tl w with
  | nil => exact Bool.and_false _
  | cons d r =>
    have hl : w.length = r.length + 1 := by rw [len_tl, h, List.length_cons]
    have : (decide (0 + (⟨#[48]⟩ : Str).length ≤ w.length)) = true := decide_eq_true (by rw [hl]; show 0 + 1 ≤ _; omega)
    rw [this]
    rfl
def okFig (w : Str) : Bool := short 10 (figS w) && allIn (figS w) digits && !((match figL (tl w) with | d :: _ => d == 48 | [] => false) && !decide (w = "0"))
def numV (w : Str) : Int := if figS w = w then (NumText.digitsVal (figL (tl w)) : Nat) else -((NumText.digitsVal (figL (tl w)) : Nat) : Int)
def numD (w : Str) : D := if okFig w = true then .int (numV w) else .non
theorem all_digits {z : Str} (h : allIn z digits = true) : NumText.AllDigits (tl z) := fun c hc => by
  have q := of_decide_eq_true (List.all_eq_true.mp h c hc)
  have e : tl digits = [48, 49, 50, 51, 52, 53, 54, 55, 56, 57] := by decide +kernel
  rw [e] at q
  simp at q
  omega
theorem int_fig {w : Str} (h : allIn (figS w) digits = true) (h1 : short 10 (figS w) = true) (hw : w.length ≤ 600) : PySem.intText? w = some (numV w) := by
  have hd := all_digits h
  rw [tl_fig] at hd
  have hne : figL (tl w) ≠ [] := fun z => by
    unfold short at h1
    rw [len_tl, tl_fig, z] at h1
    cases h1
  by_cases hm : ∃ r, tl w = 45 :: r
  · obtain ⟨r, hr⟩ := hm
    rw [hr, figL_minus] at hd hne
    have hf : figS w ≠ w := fun e => by
      have e2 := congrArg tl e
      rw [tl_fig, hr, figL_minus] at e2
      have := congrArg List.length e2
      rw [List.length_cons] at this
      omega
    rw [intText_neg hr hd hne (by omega)]
    unfold numV
    rw [if_neg hf, hr, figL_minus]
  · have hf : figL (tl w) = tl w := figL_other fun r e => hm ⟨r, e⟩
    rw [hf] at hd hne
    have hs : figS w = w := ext_tl (by rw [tl_fig, hf])
    rw [intText_digits hd hne (by omega)]
    unfold numV
    rw [if_pos hs, hf]
theorem rmpre_v {w : Str} (hw : w.length ≤ 600) : fRmPre w [.str "-"] = .val (.str (figS w)) := by
  show (if decide (w.length ≤ sizeLine) = true then Res.val (.str (Txt.removeprefix w "-")) else .bad) = _
  rw [if_pos (decide_eq_true (Nat.le_trans hw (by decide))), rm_fig]
theorem starts_v (w : Str) : fStarts w [.str "0"] = .val (.bl (match tl w with
    | d :: _ => d == 48
    | [] => false)) := by
  show Res.val (.bl (Txt.startswith w "0")) = _
  rw [starts0]
theorem fNe_str (x y : Str) : fNe [.str x, .str y] = .val (.bl (!decide (x = y))) := rfl
theorem fEq_str (x y : Str) : fEq [.str x, .str y] = .val (.bl (decide (x = y))) := rfl
theorem fig_len {w : Str} {n : Nat} (hw : w.length ≤ n) : (figS w).length ≤ n := by
  rw [len_tl, tl_fig]
  have := figL_le (tl w)
  rw [← len_tl] at this
  omega
theorem ap_number_of (w : Str) (hw : w.length ≤ 600) (δ : DN.Env) : app m_number_of [.str w] δ = .ok (numD w) δ := by
  refine app_of (ret_rt rfl (δ := [some (.str w), some (.str (figS w))]) ?_)
  unfold b_number_of numD okFig
  have hf := fig_len hw
  have e := ap_has_only (figS w) digits (by omega)
  unfold digits at e
  simp only [ev_seq, at_nx, at_rt, toS_ok, bind_ok, ev_if, ev_set, ev_ret, ev_drop, ev_var, ev_move, ev_c, ev_nil, ev_cons, ev_tup, ev_lst, ev_B, asBl_bl, ev_and, ev_or, ev_not, ev_ifx, ev_andV, ev_orV, ev_notV, ev_op1n, ev_op1x, ev_op2nn, ev_op2nx, ev_op2xn, ev_op2xx, fin_val, fin_new, fin_ite, asStr_str, ev_m0, ev_m1n, ev_m1x, asInt_int, part_none, part_n, part_x, ev_sln, ev_slx, ev_chain, rd_0, st_0, rd_1, st_1, rd_2, st_2, rd_3, st_3, rd_4, st_4, rd_5, st_5, rd_6, st_6, rd_7, st_7, rd_8, st_8, rd_9, st_9, rd_10, st_10, rd_11, st_11, D.frz, D.frzs, Kd.frz, Md.sh', Nk.kd, List.map_cons, List.map_nil, List.replicate_zero, List.replicate_succ, List.cons_append, List.nil_append, List.length_cons, List.length_nil, Nat.reduceAdd, Nat.reduceSub, Nat.reduceLT, if_true, if_false, ite_true, ite_false, reduceIte, Bool.not_true, Bool.not_false, Bool.false_eq_true, eq_self, isi_str, rmpre_v hw, fI2_v, len_ok (show (figS w).length ≤ 100000 by omega), int1, chain_v]
  cases hs : short 10 (figS w) with
  | false => simp only [ev_seq, at_nx, at_rt, toS_ok, bind_ok, ev_if, ev_set, ev_ret, ev_drop, ev_var, ev_move, ev_c, ev_nil, ev_cons, ev_tup, ev_lst, ev_B, asBl_bl, ev_and, ev_or, ev_not, ev_ifx, ev_andV, ev_orV, ev_notV, ev_op1n, ev_op1x, ev_op2nn, ev_op2nx, ev_op2xn, ev_op2xx, fin_val, fin_new, fin_ite, asStr_str, ev_m0, ev_m1n, ev_m1x, asInt_int, part_none, part_n, part_x, ev_sln, ev_slx, ev_chain, rd_0, st_0, rd_1, st_1, rd_2, st_2, rd_3, st_3, rd_4, st_4, rd_5, st_5, rd_6, st_6, rd_7, st_7, rd_8, st_8, rd_9, st_9, rd_10, st_10, rd_11, st_11, D.frz, D.frzs, Kd.frz, Md.sh', Nk.kd, List.map_cons, List.map_nil, List.replicate_zero, List.replicate_succ, List.cons_append, List.nil_append, List.length_cons, List.length_nil, Nat.reduceAdd, Nat.reduceSub, Nat.reduceLT, if_true, if_false, ite_true, ite_false, reduceIte, Bool.not_true, Bool.not_false, Bool.false_eq_true, eq_self, Bool.false_and]
  | true =>
    simp only [ev_seq, at_nx, at_rt, toS_ok, bind_ok, ev_if, ev_set, ev_ret, ev_drop, ev_var, ev_move, ev_c, ev_nil, ev_cons, ev_tup, ev_lst, ev_B, asBl_bl, ev_and, ev_or, ev_not, ev_ifx, ev_andV, ev_orV, ev_notV, ev_op1n, ev_op1x, ev_op2nn, ev_op2nx, ev_op2xn, ev_op2xx, fin_val, fin_new, fin_ite, asStr_str, ev_m0, ev_m1n, ev_m1x, asInt_int, part_none, part_n, part_x, ev_sln, ev_slx, ev_chain, rd_0, st_0, rd_1, st_1, rd_2, st_2, rd_3, st_3, rd_4, st_4, rd_5, st_5, rd_6, st_6, rd_7, st_7, rd_8, st_8, rd_9, st_9, rd_10, st_10, rd_11, st_11, D.frz, D.frzs, Kd.frz, Md.sh', Nk.kd, List.map_cons, List.map_nil, List.replicate_zero, List.replicate_succ, List.cons_append, List.nil_append, List.length_cons, List.length_nil, Nat.reduceAdd, Nat.reduceSub, Nat.reduceLT, if_true, if_false, ite_true, ite_false, reduceIte, Bool.not_true, Bool.not_false, Bool.false_eq_true, eq_self, cl__has_only, e, Bool.true_and]
    cases ha : allIn (figS w) digits with
    | false =>
      unfold digits at ha
      simp only [ev_seq, at_nx, at_rt, toS_ok, bind_ok, ev_if, ev_set, ev_ret, ev_drop, ev_var, ev_move, ev_c, ev_nil, ev_cons, ev_tup, ev_lst, ev_B, asBl_bl, ev_and, ev_or, ev_not, ev_ifx, ev_andV, ev_orV, ev_notV, ev_op1n, ev_op1x, ev_op2nn, ev_op2nx, ev_op2xn, ev_op2xx, fin_val, fin_new, fin_ite, asStr_str, ev_m0, ev_m1n, ev_m1x, asInt_int, part_none, part_n, part_x, ev_sln, ev_slx, ev_chain, rd_0, st_0, rd_1, st_1, rd_2, st_2, rd_3, st_3, rd_4, st_4, rd_5, st_5, rd_6, st_6, rd_7, st_7, rd_8, st_8, rd_9, st_9, rd_10, st_10, rd_11, st_11, D.frz, D.frzs, Kd.frz, Md.sh', Nk.kd, List.map_cons, List.map_nil, List.replicate_zero, List.replicate_succ, List.cons_append, List.nil_append, List.length_cons, List.length_nil, Nat.reduceAdd, Nat.reduceSub, Nat.reduceLT, if_true, if_false, ite_true, ite_false, reduceIte, Bool.not_true, Bool.not_false, Bool.false_eq_true, eq_self, ha, Bool.false_and]
    | true =>
      have hi := int_fig ha hs hw
      have ev : fInt [.str w] = .val (.int (numV w)) := by
        show (match PySem.intText? w with
          | some n => if w.length ≤ 640 then Res.val (.int n) else .bad
          | none => .bad) = _
        rw [hi]
        exact if_pos (by omega)
      unfold digits at ha
      simp only [ev_seq, at_nx, at_rt, toS_ok, bind_ok, ev_if, ev_set, ev_ret, ev_drop, ev_var, ev_move, ev_c, ev_nil, ev_cons, ev_tup, ev_lst, ev_B, asBl_bl, ev_and, ev_or, ev_not, ev_ifx, ev_andV, ev_orV, ev_notV, ev_op1n, ev_op1x, ev_op2nn, ev_op2nx, ev_op2xn, ev_op2xx, fin_val, fin_new, fin_ite, asStr_str, ev_m0, ev_m1n, ev_m1x, asInt_int, part_none, part_n, part_x, ev_sln, ev_slx, ev_chain, rd_0, st_0, rd_1, st_1, rd_2, st_2, rd_3, st_3, rd_4, st_4, rd_5, st_5, rd_6, st_6, rd_7, st_7, rd_8, st_8, rd_9, st_9, rd_10, st_10, rd_11, st_11, D.frz, D.frzs, Kd.frz, Md.sh', Nk.kd, List.map_cons, List.map_nil, List.replicate_zero, List.replicate_succ, List.cons_append, List.nil_append, List.length_cons, List.length_nil, Nat.reduceAdd, Nat.reduceSub, Nat.reduceLT, if_true, if_false, ite_true, ite_false, reduceIte, Bool.not_true, Bool.not_false, Bool.false_eq_true, eq_self, ha, starts_v, tl_fig, fNe_str, Bool.true_and]
      generalize (match figL (tl w) with | d :: _ => d == 48 | [] => false) = b1
      generalize decide (w = "0") = b2
      cases b1 <;> cases b2 <;> simp only [ev_seq, at_nx, at_rt, toS_ok, bind_ok, ev_if, ev_set, ev_ret, ev_drop, ev_var, ev_move, ev_c, ev_nil, ev_cons, ev_tup, ev_lst, ev_B, asBl_bl, ev_and, ev_or, ev_not, ev_ifx, ev_andV, ev_orV, ev_notV, ev_op1n, ev_op1x, ev_op2nn, ev_op2nx, ev_op2xn, ev_op2xx, fin_val, fin_new, fin_ite, asStr_str, ev_m0, ev_m1n, ev_m1x, asInt_int, part_none, part_n, part_x, ev_sln, ev_slx, ev_chain, rd_0, st_0, rd_1, st_1, rd_2, st_2, rd_3, st_3, rd_4, st_4, rd_5, st_5, rd_6, st_6, rd_7, st_7, rd_8, st_8, rd_9, st_9, rd_10, st_10, rd_11, st_11, D.frz, D.frzs, Kd.frz, Md.sh', Nk.kd, List.map_cons, List.map_nil, List.replicate_zero, List.replicate_succ, List.cons_append, List.nil_append, List.length_cons, List.length_nil, Nat.reduceAdd, Nat.reduceSub, Nat.reduceLT, if_true, if_false, ite_true, ite_false, reduceIte, Bool.not_true, Bool.not_false, Bool.false_eq_true, eq_self, ev, Bool.true_and, Bool.and_true, Bool.false_and, Bool.and_false]
/-! ### the law's own number -/
theorem cut1 (w : Str) : fSl none (some 1) [.str w] = (if w.length ≤ sizeLine then .val (.str ⟨((tl w).take 1).toArray⟩) else .bad) := by
  show (if w.length ≤ sizeLine then Res.val (.str (cutS w none (some 1))) else .bad) = _
  unfold cutS
  rw [HT.sIx_none, show HT.sIx w.length w.length (some 1) = min 1 w.length from HT.sIx_nat w.length w.length 1, List.drop_zero, Nat.sub_zero]
  congr 3
  cases h : tl w with
  | nil => rw [show w.cps.toList = [] from h]; simp
  | cons d r =>
    have hl : w.length = r.length + 1 := by rw [len_tl, h, List.length_cons]
    rw [show w.cps.toList = d :: r from h, show min 1 w.length = 1 by omega]
theorem cutRest (w : Str) : fSl (some 1) none [.str w] = (if w.length ≤ sizeLine then .val (.str ⟨((tl w).drop 1).toArray⟩) else .bad) := by
  show (if w.length ≤ sizeLine then Res.val (.str (cutS w (some 1) none)) else .bad) = _
  unfold cutS
  rw [HT.sIx_none, show HT.sIx w.length 0 (some 1) = min 1 w.length from HT.sIx_nat w.length 0 1]
  congr 3
  cases h : tl w with
  | nil => rw [show w.cps.toList = [] from h]; simp
  | cons d r =>
    have hl : w.length = r.length + 1 := by rw [len_tl, h, List.length_cons]
    rw [show w.cps.toList = d :: r from h, show min 1 w.length = 1 by omega]
    simp only [List.drop_succ_cons, List.drop_zero]
    rw [hl, Nat.add_sub_cancel, List.take_length]
def isMinus : List Nat → Bool
  | 45 :: _ => true
  | _ => false
theorem isMinus_other {l : List Nat} (h : ∀ r, l ≠ 45 :: r) : isMinus l = false := by
  unfold isMinus
  split
  · exact (h _ rfl).elim
  · rfl
theorem take1 (w : Str) : decide ((⟨((tl w).take 1).toArray⟩ : Str) = "-") = isMinus (tl w) := by
  rw [minus_str]
  cases h : tl w with
  | nil => exact decide_eq_false (fun e => by cases e)
  | cons d r =>
    by_cases hd : d = 45
    · subst hd
      exact decide_eq_true rfl
    · rw [isMinus_other fun r' e => hd (by cases e; rfl)]
      exact decide_eq_false (fun e => hd (by cases e; rfl))
/-- the signs that are no figures -/
def others (z : Str) : List Nat := (tl z).filter fun c => !decide (c ∈ tl digits)
theorem others_nil (z : Str) : (others z = []) ↔ allIn z digits = true := by
  unfold others allIn
  rw [List.filter_eq_nil_iff, List.all_eq_true]
  constructor
  · intro h c hc
    have := h c hc
    simpa using this
  · intro h c hc
    have := h c hc
    simpa using this
theorem lc_filter {is : List Nat} {i j : Nat} {p : Nat → Bool} {mt : MB} {δ : DN.Env} {z : Str} (hz : z.length ≤ 100000) (hmi : mSeq (mVar i) δ = .ok (DN.signs z) δ)
    (hall : is.all (fun k => decide (k < δ.length)) = true) (hsv : restore is (savesD δ is) (wipeD δ is) = δ)
    (ht : ∀ c : Nat, ∃ δ1 δ2, (Tg.nm j).put (.str ⟨#[c]⟩) (wipeD δ is) = some δ1 ∧ mt δ1 = .ok (p c) δ2 ∧ δ2.length = (wipeD δ is).length ∧ wipeD δ2 is = wipeD δ is ∧ (p c = true → ∃ δ3, mVar j δ2 = .ok (.str ⟨#[c]⟩) δ3 ∧ δ3.length = (wipeD δ is).length ∧ wipeD δ3 is = wipeD δ is)) :
    mLc (.nm j) is (mSeq (mVar i)) mt (mVar j) δ = .ok (.lst .own (((tl z).filter p).map fun c => .str ⟨#[c]⟩)) δ := by
  unfold mLc
  rw [hmi, bind_ok, if_pos hall]
  have h := loopC_filter (g := .nm j) (is := is) (mt := mt) (m := mVar j) (δ := wipeD δ is) (p := fun x => match x with | .str ⟨#[c]⟩ => p c | _ => false) (f := fun x => x) (DN.signs z) [] (fun x hx => by
    rw [tl_signs] at hx
    obtain ⟨c, hc, rfl⟩ := List.mem_map.mp hx
    exact ht c) (by
    have : (DN.signs z).length = z.length := by rw [tl_signs, List.length_map, len_tl]
    rw [List.length_nil, Nat.zero_add, this]
    exact Nat.le_trans hz (by decide))
  rw [h, bind_ok, List.nil_append, hsv, tl_signs, List.map_id', List.filter_map]
  rfl
theorem dig_idx : ∀ c, c ∈ tl digits → Txt.index0 digits ⟨#[c]⟩ = some (c - 48) ∧ 48 ≤ c := by
  intro c hc
  have e : tl digits = [48, 49, 50, 51, 52, 53, 54, 55, 56, 57] := by decide +kernel
  rw [e] at hc
  simp only [List.mem_cons, List.not_mem_nil, or_false] at hc
  rcases hc with rfl | rfl | rfl | rfl | rfl | rfl | rfl | rfl | rfl | rfl <;> exact ⟨by decide +kernel, by decide⟩
/-- reading the figures one by one -/
theorem loop_val (m0 : MS) (hm : m0 = sSet 2 (mOp fAdd [(.ex (mOp fMul [(.nm 2), (.ex (mC (.int 10)))])), (.ex (mM fIndexS (mC (.str digits)) [(.nm 3)]))])) (a b : Option D) :
    ∀ (l : List Nat) (n : Nat) (x : Option D), (∀ c ∈ l, c ∈ tl digits) → n.log2 + l.length * 5 < 5000 → ∃ x', loop (.nm 3) m0 (l.map fun c => D.str ⟨#[c]⟩) [a, b, some (.int (n : Nat)), x] = .nx [a, b, some (.int ((l.foldl (fun acc c => acc * 10 + (c - 48)) n : Nat) : Int)), x']
  | [], n, x, _, _ => ⟨x, rfl⟩
  | c :: l, n, x, h, hb => by
    obtain ⟨hk, hc⟩ := dig_idx c (h c List.mem_cons_self)
    have hmul : mulOk (n : Int) 10 = true := by
      unfold mulOk
      apply decide_eq_true
      have : ((10 : Int)).natAbs.log2 = 3 := by decide
      rw [this, Int.natAbs_natCast]
      omega
    have step : m0 [a, b, some (.int (n : Nat)), some (.str ⟨#[c]⟩)] = .nx [a, b, some (.int ((n * 10 + (c - 48) : Nat) : Int)), some (.str ⟨#[c]⟩)] := by
      rw [hm]
      have hx : fIndexS digits [.str ⟨#[c]⟩] = .val (.int ((c - 48 : Nat) : Int)) := by
        show (match Txt.index0 digits ⟨#[c]⟩ with
          | some k => Res.val (.int (k : Nat))
          | none => .bad) = _
        rw [hk]
      have h1 : fMul [.int (n : Nat), .int 10] = .val (.int ((n : Int) * 10)) := by
        show fI2 mulOk (fun i j => .int (i * j)) [.int (n : Nat), .int 10] = _
        rw [fI2_v hmul]
      have h2 : fAdd [.int ((n : Int) * 10), .int ((c - 48 : Nat) : Int)] = .val (.int ((n : Int) * 10 + ((c - 48 : Nat) : Int))) := rfl
      have h3 : (n : Int) * 10 + ((c - 48 : Nat) : Int) = ((n * 10 + (c - 48) : Nat) : Int) := by omega
      simp only [ev_seq, at_nx, at_rt, toS_ok, bind_ok, ev_if, ev_set, ev_ret, ev_drop, ev_var, ev_move, ev_c, ev_nil, ev_cons, ev_tup, ev_lst, ev_B, asBl_bl, ev_and, ev_or, ev_not, ev_ifx, ev_andV, ev_orV, ev_notV, ev_op1n, ev_op1x, ev_op2nn, ev_op2nx, ev_op2xn, ev_op2xx, fin_val, fin_new, fin_ite, asStr_str, ev_m0, ev_m1n, ev_m1x, asInt_int, part_none, part_n, part_x, ev_sln, ev_slx, ev_chain, rd_0, st_0, rd_1, st_1, rd_2, st_2, rd_3, st_3, rd_4, st_4, rd_5, st_5, rd_6, st_6, rd_7, st_7, rd_8, st_8, rd_9, st_9, rd_10, st_10, rd_11, st_11, D.frz, D.frzs, Kd.frz, Md.sh', Nk.kd, List.map_cons, List.map_nil, List.replicate_zero, List.replicate_succ, List.cons_append, List.nil_append, List.length_cons, List.length_nil, Nat.reduceAdd, Nat.reduceSub, Nat.reduceLT, if_true, if_false, ite_true, ite_false, reduceIte, Bool.not_true, Bool.not_false, Bool.false_eq_true, eq_self, h1, hx, h2, h3]
    have hlog : (n * 10 + (c - 48)).log2 + l.length * 5 < 5000 := by
      have e : tl digits = [48, 49, 50, 51, 52, 53, 54, 55, 56, 57] := by decide +kernel
      have hm' := h c List.mem_cons_self
      rw [e] at hm'
      simp only [List.mem_cons, List.not_mem_nil, or_false] at hm'
      have hc9 : c - 48 ≤ 9 := by omega
      have hn : n < 2 ^ (n.log2 + 1) := Nat.lt_log2_self
      have : n * 10 + (c - 48) < 2 ^ (n.log2 + 1 + 4) := by
        rw [Nat.pow_add]
        omega
      have h3 : (n * 10 + (c - 48)).log2 < n.log2 + 1 + 4 := by
        by_cases hz : n * 10 + (c - 48) = 0
        · rw [hz]
          show Nat.log2 0 < _
          rw [Nat.log2_zero]
          omega
        · exact (Nat.log2_lt hz).mpr this
      rw [List.length_cons] at hb
      omega
    obtain ⟨x', e⟩ := loop_val m0 hm a b l (n * 10 + (c - 48)) (some (.str ⟨#[c]⟩)) (fun d hd => h d (List.mem_cons_of_mem _ hd)) hlog
    refine ⟨x', ?_⟩
    rw [List.map_cons]
    unfold loop
    show (match m0 [a, b, some (.int (n : Nat)), some (.str ⟨#[c]⟩)] with
      | .nx δ2 => loop (.nm 3) m0 (l.map fun c => D.str ⟨#[c]⟩) δ2
      | .ct δ2 => loop (.nm 3) m0 (l.map fun c => D.str ⟨#[c]⟩) δ2
      | .bk δ2 => .nx δ2
      | r => r) = _
    rw [step]
    exact e
theorem pys_strs (l : List Nat) : D.pys (l.map fun c => D.str ⟨#[c]⟩) = l.map fun c => PyData.str ⟨#[c]⟩ := by
  induction l with
  | nil => rfl
  | cons c l ih =>
    show PyData.str ⟨#[c]⟩ :: D.pys (l.map fun c => D.str ⟨#[c]⟩) = _
    rw [ih]
    rfl
theorem plains_strs (l : List Str) : D.plains (l.map D.str) = true := by
  induction l with
  | nil => rfl
  | cons c l ih => exact ih
theorem pys_strs' (l : List Str) : D.pys (l.map D.str) = l.map PyData.str := by
  induction l with
  | nil => rfl
  | cons c l ih =>
    show PyData.str c :: D.pys (l.map D.str) = _
    rw [ih]
    rfl
def valid (l : List Nat) : Prop := ∀ c ∈ l, c < 0x110000
theorem strOk_of {x : Str} (h : valid (tl x)) : PyData.strOk x = true := by
  unfold PyData.strOk
  rw [← Array.all_toList, List.all_eq_true]
  intro c hc
  exact decide_eq_true (h c hc)
theorem canLay_strs : ∀ {l : List Str}, (∀ x ∈ l, valid (tl x)) → PyData.canLayAll0 (l.map PyData.str) = true
  | [], _ => rfl
  | x :: l, h => by
    show (PyData.canLay0 (.str x) && PyData.canLayAll0 (l.map PyData.str)) = true
    rw [canLay_strs fun y hy => h y (List.mem_cons_of_mem _ hy)]
    show (PyData.strOk x && true) = true
    rw [strOk_of (h x List.mem_cons_self)]
    rfl
theorem depth_strs : ∀ l : List Str, PyData.depthAll (l.map PyData.str) = 0
  | [] => rfl
  | x :: l => by
    show max (PyData.depth (.str x)) (PyData.depthAll (l.map PyData.str)) = 0
    rw [depth_strs l]
    rfl
theorem shp_strs {l : List Str} (m : Md) (h : ∀ x ∈ l, valid (tl x)) : shp (.con (.lst m) (l.map .str)) = true := by
  unfold shp SeqAt.shaped
  have e1 : (D.con (.lst m) (l.map .str)).plain = true := plains_strs l
  have e2 : (D.con (.lst m) (l.map .str)).py = .list (l.map PyData.str) := by
    show PyData.list (D.pys (l.map .str)) = _
    rw [pys_strs']
  rw [e1, e2]
  have e3 : PyData.canLay0 (.list (l.map PyData.str)) = true := canLay_strs h
  have e4 : PyData.depth (.list (l.map PyData.str)) = 1 := by
    show PyData.depthAll (l.map PyData.str) + 1 = 1
    rw [depth_strs]
  rw [e3, e4]
  rfl
theorem eqv_strs : ∀ l m : List Str, PyData.eqvAll (l.map PyData.str) (m.map PyData.str) = decide (l = m)
  | [], [] => rfl
  | [], _ :: _ => rfl
  | _ :: _, [] => rfl
  | x :: l, y :: m => by
    show ((x == y) && PyData.eqvAll (l.map PyData.str) (m.map PyData.str)) = _
    rw [eqv_strs l m]
    by_cases h1 : x = y
    · by_cases h2 : l = m
      · simp [h1, h2]
      · simp [h1, h2]
    · simp [h1]
theorem eqD_strs (m m' : Md) (l k : List Str) : eqD (.con (.lst m) (l.map .str)) (.con (.lst m') (k.map .str)) = decide (l = k) := by
  show PyData.eqvAll (D.pys (l.map .str)) (D.pys (k.map .str)) = _
  rw [pys_strs', pys_strs', eqv_strs]
theorem fNe_strs (m m' : Md) {l k : List Str} (hl : ∀ x ∈ l, valid (tl x)) (hk : ∀ x ∈ k, valid (tl x)) : fNe [.con (.lst m) (l.map .str), .con (.lst m') (k.map .str)] = .val (.bl (!decide (l = k))) := by
  show (if (shp _ && shp _) = true then Res.val (.bl (!eqD _ _)) else .bad) = _
  rw [shp_strs m hl, shp_strs m' hk, eqD_strs]
  rfl
theorem fEq_strs (m m' : Md) {l k : List Str} (hl : ∀ x ∈ l, valid (tl x)) (hk : ∀ x ∈ k, valid (tl x)) : fEq [.con (.lst m) (l.map .str), .con (.lst m') (k.map .str)] = .val (.bl (decide (l = k))) := by
  show (if (shp _ && shp _) = true then Res.val (.bl (eqD _ _)) else .bad) = _
  rw [shp_strs m hl, shp_strs m' hk, eqD_strs]
  rfl
theorem pures_strs (l : List Str) : D.pures (l.map D.str) = true := by
  induction l with
  | nil => rfl
  | cons c l ih => exact ih
theorem map_sign (l : List Nat) : (l.map fun c => D.str ⟨#[c]⟩) = (l.map fun c => (⟨#[c]⟩ : Str)).map D.str := by
  rw [List.map_map]
  rfl
theorem valid_fig {w : Str} (h : valid (tl w)) : valid (tl (figS w)) := by
  rw [tl_fig]
  unfold figL
  split
  · rename_i r e
    exact fun c hc => h c (by rw [e]; exact List.mem_cons_of_mem _ hc)
  · exact h
theorem ap_law_number (w : Str) (hw : w.length ≤ 600) (hv : valid (tl w)) (δ : DN.Env) : app m__law_number [.str w] δ = .ok (numD w) δ := by
  have hf := fig_len hw
  have hw2 : w.length ≤ sizeLine := Nat.le_trans hw (by decide)
  -- the figures
  have e1 : mIf (mB (mOp fEq [(.ex (mSl (.nm 0) none (some (.ex (mC (.int 1)))))), (.ex (mC (.str "-")))])) (mSl (.nm 0) (some (.ex (mC (.int 1)))) none) (mVar 0) [some (.str w), none, none, none] = .ok (.str (figS w)) [some (.str w), none, none, none] := by
    simp only [ev_seq, at_nx, at_rt, toS_ok, bind_ok, ev_if, ev_set, ev_ret, ev_drop, ev_var, ev_move, ev_c, ev_nil, ev_cons, ev_tup, ev_lst, ev_B, asBl_bl, ev_and, ev_or, ev_not, ev_ifx, ev_andV, ev_orV, ev_notV, ev_op1n, ev_op1x, ev_op2nn, ev_op2nx, ev_op2xn, ev_op2xx, fin_val, fin_new, fin_ite, asStr_str, ev_m0, ev_m1n, ev_m1x, asInt_int, part_none, part_n, part_x, ev_sln, ev_slx, ev_chain, rd_0, st_0, rd_1, st_1, rd_2, st_2, rd_3, st_3, rd_4, st_4, rd_5, st_5, rd_6, st_6, rd_7, st_7, rd_8, st_8, rd_9, st_9, rd_10, st_10, rd_11, st_11, D.frz, D.frzs, Kd.frz, Md.sh', Nk.kd, List.map_cons, List.map_nil, List.replicate_zero, List.replicate_succ, List.cons_append, List.nil_append, List.length_cons, List.length_nil, Nat.reduceAdd, Nat.reduceSub, Nat.reduceLT, if_true, if_false, ite_true, ite_false, reduceIte, Bool.not_true, Bool.not_false, Bool.false_eq_true, eq_self, cut1, cutRest, if_pos hw2, fEq_str, take1]
    cases hm : isMinus (tl w) with
    | true =>
      simp only [ev_seq, at_nx, at_rt, toS_ok, bind_ok, ev_if, ev_set, ev_ret, ev_drop, ev_var, ev_move, ev_c, ev_nil, ev_cons, ev_tup, ev_lst, ev_B, asBl_bl, ev_and, ev_or, ev_not, ev_ifx, ev_andV, ev_orV, ev_notV, ev_op1n, ev_op1x, ev_op2nn, ev_op2nx, ev_op2xn, ev_op2xx, fin_val, fin_new, fin_ite, asStr_str, ev_m0, ev_m1n, ev_m1x, asInt_int, part_none, part_n, part_x, ev_sln, ev_slx, ev_chain, rd_0, st_0, rd_1, st_1, rd_2, st_2, rd_3, st_3, rd_4, st_4, rd_5, st_5, rd_6, st_6, rd_7, st_7, rd_8, st_8, rd_9, st_9, rd_10, st_10, rd_11, st_11, D.frz, D.frzs, Kd.frz, Md.sh', Nk.kd, List.map_cons, List.map_nil, List.replicate_zero, List.replicate_succ, List.cons_append, List.nil_append, List.length_cons, List.length_nil, Nat.reduceAdd, Nat.reduceSub, Nat.reduceLT, if_true, if_false, ite_true, ite_false, reduceIte, Bool.not_true, Bool.not_false, Bool.false_eq_true, eq_self]
      unfold isMinus at hm
      split at hm
      · rename_i r e
        rw [e]
        unfold figS
        rw [e]
        rfl
      · cases hm
    | false =>
      simp only [ev_seq, at_nx, at_rt, toS_ok, bind_ok, ev_if, ev_set, ev_ret, ev_drop, ev_var, ev_move, ev_c, ev_nil, ev_cons, ev_tup, ev_lst, ev_B, asBl_bl, ev_and, ev_or, ev_not, ev_ifx, ev_andV, ev_orV, ev_notV, ev_op1n, ev_op1x, ev_op2nn, ev_op2nx, ev_op2xn, ev_op2xx, fin_val, fin_new, fin_ite, asStr_str, ev_m0, ev_m1n, ev_m1x, asInt_int, part_none, part_n, part_x, ev_sln, ev_slx, ev_chain, rd_0, st_0, rd_1, st_1, rd_2, st_2, rd_3, st_3, rd_4, st_4, rd_5, st_5, rd_6, st_6, rd_7, st_7, rd_8, st_8, rd_9, st_9, rd_10, st_10, rd_11, st_11, D.frz, D.frzs, Kd.frz, Md.sh', Nk.kd, List.map_cons, List.map_nil, List.replicate_zero, List.replicate_succ, List.cons_append, List.nil_append, List.length_cons, List.length_nil, Nat.reduceAdd, Nat.reduceSub, Nat.reduceLT, if_true, if_false, ite_true, ite_false, reduceIte, Bool.not_true, Bool.not_false, Bool.false_eq_true, eq_self]
      have : figS w = w := ext_tl (by
        rw [tl_fig]
        exact figL_other fun r e => by
          rw [e] at hm
          cases hm)
      rw [this]
  have hz : (figS w).length ≤ 100000 := by omega
  have e2 : mLc (.nm 3) [3] (mSeq (mVar 1)) (mB (mOp (fIn true) [(.nm 3), (.ex (mC (.str "0123456789")))])) (mVar 3) [some (.str w), some (.str (figS w)), none, none] = .ok (.lst .own (((others (figS w)).map fun c => (⟨#[c]⟩ : Str)).map .str)) [some (.str w), some (.str (figS w)), none, none] := by
    rw [← map_sign]
    exact lc_filter (z := figS w) (p := fun c => !decide (c ∈ tl digits)) hz rfl (by rfl) rfl fun c => ⟨[some (.str w), some (.str (figS w)), none, some (.str ⟨#[c]⟩)], [some (.str w), some (.str (figS w)), none, some (.str ⟨#[c]⟩)], rfl, rfl, rfl, rfl, fun _ => ⟨[some (.str w), some (.str (figS w)), none, some (.str ⟨#[c]⟩)], rfl, rfl, rfl⟩⟩
  have vo : ∀ x ∈ (others (figS w)).map fun c => (⟨#[c]⟩ : Str), valid (tl x) := by
    intro x hx
    obtain ⟨c, hc, rfl⟩ := List.mem_map.mp hx
    intro d hd
    have : d = c := by simpa using hd
    subst this
    exact valid_fig hv d (List.mem_filter.mp hc).1
  have e3 := fNe_strs .sh .sh vo (k := []) (fun _ h => by cases h)
  have h0 : (0 : Nat) ≤ sizeLine := Nat.zero_le _
  by_cases ha : allIn (figS w) digits = true
  · have hoth : others (figS w) = [] := (others_nil _).mpr ha
    cases hs : short 10 (figS w) with
    | false =>
      refine app_of (ret_rt rfl (δ := [some (.str w), some (.str (figS w)), none, none]) ?_)
      show b__law_number [some (.str w), none, none, none] = _
      unfold b__law_number numD okFig
      simp only [ev_seq, ev_set, e1, toS_ok]
      simp only [ev_seq, at_nx, at_rt, toS_ok, bind_ok, ev_if, ev_set, ev_ret, ev_drop, ev_var, ev_move, ev_c, ev_nil, ev_cons, ev_tup, ev_lst, ev_B, asBl_bl, ev_and, ev_or, ev_not, ev_ifx, ev_andV, ev_orV, ev_notV, ev_op1n, ev_op1x, ev_op2nn, ev_op2nx, ev_op2xn, ev_op2xx, fin_val, fin_new, fin_ite, asStr_str, ev_m0, ev_m1n, ev_m1x, asInt_int, part_none, part_n, part_x, ev_sln, ev_slx, ev_chain, rd_0, st_0, rd_1, st_1, rd_2, st_2, rd_3, st_3, rd_4, st_4, rd_5, st_5, rd_6, st_6, rd_7, st_7, rd_8, st_8, rd_9, st_9, rd_10, st_10, rd_11, st_11, D.frz, D.frzs, Kd.frz, Md.sh', Nk.kd, List.map_cons, List.map_nil, List.replicate_zero, List.replicate_succ, List.cons_append, List.nil_append, List.length_cons, List.length_nil, Nat.reduceAdd, Nat.reduceSub, Nat.reduceLT, if_true, if_false, ite_true, ite_false, reduceIte, Bool.not_true, Bool.not_false, Bool.false_eq_true, eq_self, fI2_v, len_ok hz, int1, chain_v, hs, Bool.false_and]
    | true =>
      have hne : figL (tl w) ≠ [] := fun z => by
        unfold short at hs
        rw [len_tl, tl_fig, z] at hs
        cases hs
      obtain ⟨d, r, hdr⟩ : ∃ d r, figL (tl w) = d :: r := by
        cases h : figL (tl w) with
        | nil => exact (hne h).elim
        | cons d r => exact ⟨d, r, rfl⟩
      have hix : fIx [.str (figS w), .int 0] = .val (.str ⟨#[d]⟩) := by
        show (if (figS w).length ≤ sizeLine then (match atI (tl (figS w)) 0 with
          | some c => Res.val (.str ⟨#[c]⟩)
          | none => .bad) else .bad) = _
        rw [if_pos (Nat.le_trans hz (by decide)), tl_fig, hdr]
        have : atI (d :: r) 0 = some d := atI_nat (j := 0) rfl
        rw [this]
      have hd0 : decide ((⟨#[d]⟩ : Str) = "0") = (d == 48) := by
        rw [zero_str]
        by_cases h : d = 48
        · subst h
          rfl
        · rw [decide_eq_false fun e => h (by cases e; rfl)]
          exact (beq_eq_false_iff_ne.mpr h).symm
      have e4 : fNe [.con (.lst .sh) [], .con (.lst .sh) []] = .val (.bl false) := by
        have := fNe_strs .sh .sh (l := []) (k := []) (fun _ h => by cases h) (fun _ h => by cases h)
        exact this
      rw [hoth] at e2
      have e2' : mLc (.nm 3) [3] (mSeq (mVar 1)) (mB (mOp (fIn true) [(.nm 3), (.ex (mC (.str "0123456789")))])) (mVar 3) [some (.str w), some (.str (figS w)), none, none] = .ok (.lst .own []) [some (.str w), some (.str (figS w)), none, none] := e2
      have hstop : (match figL (tl w) with | d :: _ => d == 48 | [] => false) = (d == 48) := by rw [hdr]
      have hdg := all_digits ha
      cases hb : (d == 48) && !decide (w = "0") with
      | true =>
        refine app_of (ret_rt rfl (δ := [some (.str w), some (.str (figS w)), none, none]) ?_)
        show b__law_number [some (.str w), none, none, none] = _
        unfold b__law_number numD okFig
        simp only [ev_seq, ev_set, e1, toS_ok]
        have hb1 : (d == 48) = true := (Bool.and_eq_true_iff.mp hb).1
        have hb2 : (!decide (w = "0")) = true := (Bool.and_eq_true_iff.mp hb).2
        simp only [ev_seq, at_nx, at_rt, toS_ok, bind_ok, ev_if, ev_set, ev_ret, ev_drop, ev_var, ev_move, ev_c, ev_nil, ev_cons, ev_tup, ev_lst, ev_B, asBl_bl, ev_and, ev_or, ev_not, ev_ifx, ev_andV, ev_orV, ev_notV, ev_op1n, ev_op1x, ev_op2nn, ev_op2nx, ev_op2xn, ev_op2xx, fin_val, fin_new, fin_ite, asStr_str, ev_m0, ev_m1n, ev_m1x, asInt_int, part_none, part_n, part_x, ev_sln, ev_slx, ev_chain, rd_0, st_0, rd_1, st_1, rd_2, st_2, rd_3, st_3, rd_4, st_4, rd_5, st_5, rd_6, st_6, rd_7, st_7, rd_8, st_8, rd_9, st_9, rd_10, st_10, rd_11, st_11, D.frz, D.frzs, Kd.frz, Md.sh', Nk.kd, List.map_cons, List.map_nil, List.replicate_zero, List.replicate_succ, List.cons_append, List.nil_append, List.length_cons, List.length_nil, Nat.reduceAdd, Nat.reduceSub, Nat.reduceLT, if_true, if_false, ite_true, ite_false, reduceIte, Bool.not_true, Bool.not_false, Bool.false_eq_true, eq_self, fI2_v, len_ok hz, int1, chain_v, hs, e2', e4, h0, hix, fEq_str, hd0, fNe_str, hstop, ha, hb1, hb2, Bool.and_true, Bool.true_and, Bool.and_self]
      | false =>
        have hin : ∀ c ∈ tl (figS w), c ∈ tl digits := fun c hc => of_decide_eq_true (List.all_eq_true.mp ha c hc)
        have hl10 : (tl (figS w)).length ≤ 10 := by
          unfold short at hs
          have := of_decide_eq_true (Bool.and_eq_true_iff.mp hs).2
          rw [len_tl] at this
          omega
        obtain ⟨x', eL⟩ := loop_val _ rfl (some (.str w)) (some (.str (figS w))) (tl (figS w)) 0 none hin (by
          show Nat.log2 0 + _ < _
          rw [Nat.log2_zero]
          omega)
        have eL' : loop (.nm 3) (sSet 2 (mOp fAdd [(.ex (mOp fMul [(.nm 2), (.ex (mC (.int 10)))])), (.ex (mM fIndexS (mC (.str "0123456789")) [(.nm 3)]))])) (DN.signs (figS w)) [some (.str w), some (.str (figS w)), some (.int 0), none] = .nx [some (.str w), some (.str (figS w)), some (.int ((NumText.digitsVal (figL (tl w)) : Nat) : Int)), x'] := eL
        have hit : items (.str (figS w)) = some (DN.signs (figS w)) := rfl
        refine app_of (ret_rt rfl (δ := [some (.str w), some (.str (figS w)), some (.int ((NumText.digitsVal (figL (tl w)) : Nat) : Int)), x']) ?_)
        show b__law_number [some (.str w), none, none, none] = _
        unfold b__law_number numD okFig
        have hsub : fSub [.int 0, .int ((NumText.digitsVal (figL (tl w)) : Nat) : Int)] = .val (.int (0 - ((NumText.digitsVal (figL (tl w)) : Nat) : Int))) := rfl
        simp only [ev_seq, ev_set, e1, toS_ok]
        simp only [ev_seq, at_nx, at_rt, toS_ok, bind_ok, ev_if, ev_set, ev_ret, ev_drop, ev_var, ev_move, ev_c, ev_nil, ev_cons, ev_tup, ev_lst, ev_B, asBl_bl, ev_and, ev_or, ev_not, ev_ifx, ev_andV, ev_orV, ev_notV, ev_op1n, ev_op1x, ev_op2nn, ev_op2nx, ev_op2xn, ev_op2xx, fin_val, fin_new, fin_ite, asStr_str, ev_m0, ev_m1n, ev_m1x, asInt_int, part_none, part_n, part_x, ev_sln, ev_slx, ev_chain, rd_0, st_0, rd_1, st_1, rd_2, st_2, rd_3, st_3, rd_4, st_4, rd_5, st_5, rd_6, st_6, rd_7, st_7, rd_8, st_8, rd_9, st_9, rd_10, st_10, rd_11, st_11, D.frz, D.frzs, Kd.frz, Md.sh', Nk.kd, List.map_cons, List.map_nil, List.replicate_zero, List.replicate_succ, List.cons_append, List.nil_append, List.length_cons, List.length_nil, Nat.reduceAdd, Nat.reduceSub, Nat.reduceLT, if_true, if_false, ite_true, ite_false, reduceIte, Bool.not_true, Bool.not_false, Bool.false_eq_true, eq_self, fI2_v, len_ok hz, int1, chain_v, hs, e2', e4, h0, hix, fEq_str, hd0, fNe_str, hstop, ha, Bool.and_true, Bool.true_and, Bool.and_self, hb]
        have hif : (if (d == 48) = true then R.ok (!decide (w = "0")) [some (D.str w), some (D.str (figS w)), none, none] else (R.ok false [some (D.str w), some (D.str (figS w)), none, none] : R Bool)) = .ok false [some (D.str w), some (D.str (figS w)), none, none] := by
          cases h1 : (d == 48) with
          | false => rfl
          | true =>
            rw [h1, Bool.true_and] at hb
            rw [hb]
            rfl
        rw [hif]
        simp only [ev_seq, at_nx, at_rt, toS_ok, bind_ok, ev_if, ev_set, ev_ret, ev_drop, ev_var, ev_move, ev_c, ev_nil, ev_cons, ev_tup, ev_lst, ev_B, asBl_bl, ev_and, ev_or, ev_not, ev_ifx, ev_andV, ev_orV, ev_notV, ev_op1n, ev_op1x, ev_op2nn, ev_op2nx, ev_op2xn, ev_op2xx, fin_val, fin_new, fin_ite, asStr_str, ev_m0, ev_m1n, ev_m1x, asInt_int, part_none, part_n, part_x, ev_sln, ev_slx, ev_chain, rd_0, st_0, rd_1, st_1, rd_2, st_2, rd_3, st_3, rd_4, st_4, rd_5, st_5, rd_6, st_6, rd_7, st_7, rd_8, st_8, rd_9, st_9, rd_10, st_10, rd_11, st_11, D.frz, D.frzs, Kd.frz, Md.sh', Nk.kd, List.map_cons, List.map_nil, List.replicate_zero, List.replicate_succ, List.cons_append, List.nil_append, List.length_cons, List.length_nil, Nat.reduceAdd, Nat.reduceSub, Nat.reduceLT, if_true, if_false, ite_true, ite_false, reduceIte, Bool.not_true, Bool.not_false, Bool.false_eq_true, eq_self, ev_for, ev_mseq, hit, eL', fEq_str, hsub]
        unfold numV
        by_cases hfw : figS w = w
        · rw [if_pos hfw, decide_eq_true hfw]
          simp only [ev_seq, at_nx, at_rt, toS_ok, bind_ok, ev_if, ev_set, ev_ret, ev_drop, ev_var, ev_move, ev_c, ev_nil, ev_cons, ev_tup, ev_lst, ev_B, asBl_bl, ev_and, ev_or, ev_not, ev_ifx, ev_andV, ev_orV, ev_notV, ev_op1n, ev_op1x, ev_op2nn, ev_op2nx, ev_op2xn, ev_op2xx, fin_val, fin_new, fin_ite, asStr_str, ev_m0, ev_m1n, ev_m1x, asInt_int, part_none, part_n, part_x, ev_sln, ev_slx, ev_chain, rd_0, st_0, rd_1, st_1, rd_2, st_2, rd_3, st_3, rd_4, st_4, rd_5, st_5, rd_6, st_6, rd_7, st_7, rd_8, st_8, rd_9, st_9, rd_10, st_10, rd_11, st_11, D.frz, D.frzs, Kd.frz, Md.sh', Nk.kd, List.map_cons, List.map_nil, List.replicate_zero, List.replicate_succ, List.cons_append, List.nil_append, List.length_cons, List.length_nil, Nat.reduceAdd, Nat.reduceSub, Nat.reduceLT, if_true, if_false, ite_true, ite_false, reduceIte, Bool.not_true, Bool.not_false, Bool.false_eq_true, eq_self]
        · rw [if_neg hfw, decide_eq_false hfw]
          simp only [ev_seq, at_nx, at_rt, toS_ok, bind_ok, ev_if, ev_set, ev_ret, ev_drop, ev_var, ev_move, ev_c, ev_nil, ev_cons, ev_tup, ev_lst, ev_B, asBl_bl, ev_and, ev_or, ev_not, ev_ifx, ev_andV, ev_orV, ev_notV, ev_op1n, ev_op1x, ev_op2nn, ev_op2nx, ev_op2xn, ev_op2xx, fin_val, fin_new, fin_ite, asStr_str, ev_m0, ev_m1n, ev_m1x, asInt_int, part_none, part_n, part_x, ev_sln, ev_slx, ev_chain, rd_0, st_0, rd_1, st_1, rd_2, st_2, rd_3, st_3, rd_4, st_4, rd_5, st_5, rd_6, st_6, rd_7, st_7, rd_8, st_8, rd_9, st_9, rd_10, st_10, rd_11, st_11, D.frz, D.frzs, Kd.frz, Md.sh', Nk.kd, List.map_cons, List.map_nil, List.replicate_zero, List.replicate_succ, List.cons_append, List.nil_append, List.length_cons, List.length_nil, Nat.reduceAdd, Nat.reduceSub, Nat.reduceLT, if_true, if_false, ite_true, ite_false, reduceIte, Bool.not_true, Bool.not_false, Bool.false_eq_true, eq_self, Int.zero_sub]
  · cases hs : short 10 (figS w) with
    | false =>
      refine app_of (ret_rt rfl (δ := [some (.str w), some (.str (figS w)), none, none]) ?_)
      show b__law_number [some (.str w), none, none, none] = _
      unfold b__law_number numD okFig
      simp only [ev_seq, ev_set, e1, toS_ok]
      simp only [ev_seq, at_nx, at_rt, toS_ok, bind_ok, ev_if, ev_set, ev_ret, ev_drop, ev_var, ev_move, ev_c, ev_nil, ev_cons, ev_tup, ev_lst, ev_B, asBl_bl, ev_and, ev_or, ev_not, ev_ifx, ev_andV, ev_orV, ev_notV, ev_op1n, ev_op1x, ev_op2nn, ev_op2nx, ev_op2xn, ev_op2xx, fin_val, fin_new, fin_ite, asStr_str, ev_m0, ev_m1n, ev_m1x, asInt_int, part_none, part_n, part_x, ev_sln, ev_slx, ev_chain, rd_0, st_0, rd_1, st_1, rd_2, st_2, rd_3, st_3, rd_4, st_4, rd_5, st_5, rd_6, st_6, rd_7, st_7, rd_8, st_8, rd_9, st_9, rd_10, st_10, rd_11, st_11, D.frz, D.frzs, Kd.frz, Md.sh', Nk.kd, List.map_cons, List.map_nil, List.replicate_zero, List.replicate_succ, List.cons_append, List.nil_append, List.length_cons, List.length_nil, Nat.reduceAdd, Nat.reduceSub, Nat.reduceLT, if_true, if_false, ite_true, ite_false, reduceIte, Bool.not_true, Bool.not_false, Bool.false_eq_true, eq_self, fI2_v, len_ok hz, int1, chain_v, hs, Bool.false_and]
    | true =>
      have hoth : ¬ (others (figS w)).map (fun c => (⟨#[c]⟩ : Str)) = [] := fun e => ha ((others_nil _).mp (by simpa using e))
      have ha' : allIn (figS w) digits = false := by
        cases h : allIn (figS w) digits with
        | true => exact (ha h).elim
        | false => rfl
      rw [decide_eq_false hoth] at e3
      have hpu := frzs_of_pure _ (pures_strs ((others (figS w)).map fun c => (⟨#[c]⟩ : Str)))
      have e3' : fNe [.con (.lst .sh) (((others (figS w)).map fun c => (⟨#[c]⟩ : Str)).map .str), .con (.lst .sh) []] = .val (.bl true) := e3
      refine app_of (ret_rt rfl (δ := [some (.str w), some (.str (figS w)), none, none]) ?_)
      show b__law_number [some (.str w), none, none, none] = _
      unfold b__law_number numD okFig
      simp only [ev_seq, ev_set, e1, toS_ok]
      simp only [ev_seq, at_nx, at_rt, toS_ok, bind_ok, ev_if, ev_set, ev_ret, ev_drop, ev_var, ev_move, ev_c, ev_nil, ev_cons, ev_tup, ev_lst, ev_B, asBl_bl, ev_and, ev_or, ev_not, ev_ifx, ev_andV, ev_orV, ev_notV, ev_op1n, ev_op1x, ev_op2nn, ev_op2nx, ev_op2xn, ev_op2xx, fin_val, fin_new, fin_ite, asStr_str, ev_m0, ev_m1n, ev_m1x, asInt_int, part_none, part_n, part_x, ev_sln, ev_slx, ev_chain, rd_0, st_0, rd_1, st_1, rd_2, st_2, rd_3, st_3, rd_4, st_4, rd_5, st_5, rd_6, st_6, rd_7, st_7, rd_8, st_8, rd_9, st_9, rd_10, st_10, rd_11, st_11, D.frz, D.frzs, Kd.frz, Md.sh', Nk.kd, List.map_cons, List.map_nil, List.replicate_zero, List.replicate_succ, List.cons_append, List.nil_append, List.length_cons, List.length_nil, Nat.reduceAdd, Nat.reduceSub, Nat.reduceLT, if_true, if_false, ite_true, ite_false, reduceIte, Bool.not_true, Bool.not_false, Bool.false_eq_true, eq_self, fI2_v, len_ok hz, int1, chain_v, hs, h0, ha', Bool.false_and, Bool.and_false, ev_op2xx]
      rw [e2]
      simp only [ev_seq, at_nx, at_rt, toS_ok, bind_ok, ev_if, ev_set, ev_ret, ev_drop, ev_var, ev_move, ev_c, ev_nil, ev_cons, ev_tup, ev_lst, ev_B, asBl_bl, ev_and, ev_or, ev_not, ev_ifx, ev_andV, ev_orV, ev_notV, ev_op1n, ev_op1x, ev_op2nn, ev_op2nx, ev_op2xn, ev_op2xx, fin_val, fin_new, fin_ite, asStr_str, ev_m0, ev_m1n, ev_m1x, asInt_int, part_none, part_n, part_x, ev_sln, ev_slx, ev_chain, rd_0, st_0, rd_1, st_1, rd_2, st_2, rd_3, st_3, rd_4, st_4, rd_5, st_5, rd_6, st_6, rd_7, st_7, rd_8, st_8, rd_9, st_9, rd_10, st_10, rd_11, st_11, D.frz, D.frzs, Kd.frz, Md.sh', Nk.kd, List.map_cons, List.map_nil, List.replicate_zero, List.replicate_succ, List.cons_append, List.nil_append, List.length_cons, List.length_nil, Nat.reduceAdd, Nat.reduceSub, Nat.reduceLT, if_true, if_false, ite_true, ite_false, reduceIte, Bool.not_true, Bool.not_false, Bool.false_eq_true, eq_self, hpu, e3']
/-! ### one word -/
theorem ap_law_one (w : Str) (hw : w.length ≤ 600) (hv : valid (tl w)) (δ : DN.Env) : app m__law_one [.str w] δ = .ok (.bl true) δ := by
  have e1 : mLc (.nm 5) [5] (mSeq (mVar 0)) (mB (mOp (fIn false) [(.nm 5), (.ex (mC (.str "abcdefghijklmnopqrstuvwxyz")))])) (mVar 5) [some (.str w), none, none, none, none, none] = .ok (.lst .own (((tl w).filter fun c => decide (c ∈ tl letters)).map fun c => .str ⟨#[c]⟩)) [some (.str w), none, none, none, none, none] :=
    lc_filter (z := w) (p := fun c => decide (c ∈ tl letters)) (by omega) rfl (by rfl) rfl fun c => ⟨[some (.str w), none, none, none, none, some (.str ⟨#[c]⟩)], [some (.str w), none, none, none, none, some (.str ⟨#[c]⟩)], rfl, rfl, rfl, rfl, fun _ => ⟨[some (.str w), none, none, none, none, some (.str ⟨#[c]⟩)], rfl, rfl, rfl⟩⟩
  have hlen : decide ((((tl w).filter fun c => decide (c ∈ tl letters)).length : Int) = (w.length : Int)) = allIn w letters := by
    unfold allIn
    rw [len_tl]
    by_cases h : ((tl w).all fun c => decide (c ∈ tl letters)) = true
    · rw [h]
      rw [List.all_eq_true] at h
      rw [List.filter_eq_self.mpr h]
      exact decide_eq_true rfl
    · have h' : ((tl w).all fun c => decide (c ∈ tl letters)) = false := by
        cases q : ((tl w).all fun c => decide (c ∈ tl letters)) with
        | true => exact (h q).elim
        | false => rfl
      rw [h']
      refine decide_eq_false fun e => h ?_
      rw [List.all_eq_true]
      have e2 : ((tl w).filter fun c => decide (c ∈ tl letters)).length = (tl w).length := by omega
      have e3 := List.Sublist.eq_of_length List.filter_sublist e2
      exact List.filter_eq_self.mp e3
  generalize hL : (tl w).filter (fun c => decide (c ∈ tl letters)) = L at e1 hlen
  have hfl : fLen [.con (.lst .own) (L.map fun c => D.str ⟨#[c]⟩)] = .val (.int (L.length : Nat)) := by
    show Res.val (.int (((L.map fun c => D.str ⟨#[c]⟩).length : Nat) : Int)) = _
    rw [List.length_map]
  have n1 : fIsi .bool [numD w] = .val (.bl false) := by
    unfold numD
    split <;> rfl
  have n2 : fNe [numD w, numD w] = .val (.bl false) := by
    unfold numD
    split
    · show Res.val (.bl (!decide (numV w = numV w))) = _
      rw [decide_eq_true rfl]
      rfl
    · rfl
  have n3 : fIs false [numD w, .non] = .val (.bl (!okFig w)) := by
    unfold numD
    cases okFig w <;> rfl
  have n4 : fNe [.bl (!okFig w), .bl (!okFig w)] = .val (.bl false) := by
    cases okFig w <;> rfl
  have n5 : ∀ i j : Int, fEq [.int i, .int j] = .val (.bl (decide (i = j))) := fun _ _ => rfl
  have n6 : ∀ a b : Bool, fEq [.bl a, .bl b] = .val (.bl (decide (a = b))) := fun _ _ => rfl
  have h7 : (7 : Nat) ≤ sizeLine := by decide
  have hI := ap_is_name w (show w.length ≤ 100000 by omega)
  have e8 : fIn true [.str w, .con (.lst .sh) [.str "any", .str "none", .str "at", .str "move", .str "box", .str "lend", .str "mend"]] = .val (.bl (!inD (.str w) noNames)) := rfl
  refine app_of (ret_rt rfl (δ := [some (.str w), some (.lst .own (L.map fun c => .str ⟨#[c]⟩)), some (numD w), some (numD w), some (.bl (allIn w letters && short 8 w)), none]) ?_)
  show b__law_one [some (.str w), none, none, none, none, none] = _
  unfold b__law_one
  simp only [ev_seq, ev_set, e1, toS_ok]
  simp only [ev_seq, at_nx, at_rt, toS_ok, bind_ok, ev_if, ev_set, ev_ret, ev_drop, ev_var, ev_move, ev_c, ev_nil, ev_cons, ev_tup, ev_lst, ev_B, asBl_bl, ev_and, ev_or, ev_not, ev_ifx, ev_andV, ev_orV, ev_notV, ev_op1n, ev_op1x, ev_op2nn, ev_op2nx, ev_op2xn, ev_op2xx, fin_val, fin_new, fin_ite, asStr_str, ev_m0, ev_m1n, ev_m1x, asInt_int, part_none, part_n, part_x, ev_sln, ev_slx, ev_chain, rd_0, st_0, rd_1, st_1, rd_2, st_2, rd_3, st_3, rd_4, st_4, rd_5, st_5, rd_6, st_6, rd_7, st_7, rd_8, st_8, rd_9, st_9, rd_10, st_10, rd_11, st_11, D.frz, D.frzs, Kd.frz, Md.sh', Nk.kd, List.map_cons, List.map_nil, List.replicate_zero, List.replicate_succ, List.cons_append, List.nil_append, List.length_cons, List.length_nil, Nat.reduceAdd, Nat.reduceSub, Nat.reduceLT, if_true, if_false, ite_true, ite_false, reduceIte, Bool.not_true, Bool.not_false, Bool.false_eq_true, eq_self, cl__law_number, cl_number_of, cl_is_name, ap_law_number w hw hv, ap_number_of w hw, ap_is_name w (show w.length ≤ 100000 by omega), n1, n2, n3, n4]
  simp only [ev_seq, at_nx, at_rt, toS_ok, bind_ok, ev_if, ev_set, ev_ret, ev_drop, ev_var, ev_move, ev_c, ev_nil, ev_cons, ev_tup, ev_lst, ev_B, asBl_bl, ev_and, ev_or, ev_not, ev_ifx, ev_andV, ev_orV, ev_notV, ev_op1n, ev_op1x, ev_op2nn, ev_op2nx, ev_op2xn, ev_op2xx, fin_val, fin_new, fin_ite, asStr_str, ev_m0, ev_m1n, ev_m1x, asInt_int, part_none, part_n, part_x, ev_sln, ev_slx, ev_chain, rd_0, st_0, rd_1, st_1, rd_2, st_2, rd_3, st_3, rd_4, st_4, rd_5, st_5, rd_6, st_6, rd_7, st_7, rd_8, st_8, rd_9, st_9, rd_10, st_10, rd_11, st_11, D.frz, D.frzs, Kd.frz, Md.sh', Nk.kd, List.map_cons, List.map_nil, List.replicate_zero, List.replicate_succ, List.cons_append, List.nil_append, List.length_cons, List.length_nil, Nat.reduceAdd, Nat.reduceSub, Nat.reduceLT, if_true, if_false, ite_true, ite_false, reduceIte, Bool.not_true, Bool.not_false, Bool.false_eq_true, eq_self, hfl, len_ok (show w.length ≤ 100000 by omega), n5, hlen, fI2_v, int1, chain_v, h7, e8]
  cases ha : allIn w letters with
  | false =>
    have hn : isName w = false := by
      unfold isName
      rw [ha, Bool.false_and, Bool.and_false]
    simp only [ev_seq, at_nx, at_rt, toS_ok, bind_ok, ev_if, ev_set, ev_ret, ev_drop, ev_var, ev_move, ev_c, ev_nil, ev_cons, ev_tup, ev_lst, ev_B, asBl_bl, ev_and, ev_or, ev_not, ev_ifx, ev_andV, ev_orV, ev_notV, ev_op1n, ev_op1x, ev_op2nn, ev_op2nx, ev_op2xn, ev_op2xx, fin_val, fin_new, fin_ite, asStr_str, ev_m0, ev_m1n, ev_m1x, asInt_int, part_none, part_n, part_x, ev_sln, ev_slx, ev_chain, rd_0, st_0, rd_1, st_1, rd_2, st_2, rd_3, st_3, rd_4, st_4, rd_5, st_5, rd_6, st_6, rd_7, st_7, rd_8, st_8, rd_9, st_9, rd_10, st_10, rd_11, st_11, D.frz, D.frzs, Kd.frz, Md.sh', Nk.kd, List.map_cons, List.map_nil, List.replicate_zero, List.replicate_succ, List.cons_append, List.nil_append, List.length_cons, List.length_nil, Nat.reduceAdd, Nat.reduceSub, Nat.reduceLT, if_true, if_false, ite_true, ite_false, reduceIte, Bool.not_true, Bool.not_false, Bool.false_eq_true, eq_self, cl_is_name, hI, hn, n6, Bool.false_and, decide_true]
  | true =>
    simp only [ev_seq, at_nx, at_rt, toS_ok, bind_ok, ev_if, ev_set, ev_ret, ev_drop, ev_var, ev_move, ev_c, ev_nil, ev_cons, ev_tup, ev_lst, ev_B, asBl_bl, ev_and, ev_or, ev_not, ev_ifx, ev_andV, ev_orV, ev_notV, ev_op1n, ev_op1x, ev_op2nn, ev_op2nx, ev_op2xn, ev_op2xx, fin_val, fin_new, fin_ite, asStr_str, ev_m0, ev_m1n, ev_m1x, asInt_int, part_none, part_n, part_x, ev_sln, ev_slx, ev_chain, rd_0, st_0, rd_1, st_1, rd_2, st_2, rd_3, st_3, rd_4, st_4, rd_5, st_5, rd_6, st_6, rd_7, st_7, rd_8, st_8, rd_9, st_9, rd_10, st_10, rd_11, st_11, D.frz, D.frzs, Kd.frz, Md.sh', Nk.kd, List.map_cons, List.map_nil, List.replicate_zero, List.replicate_succ, List.cons_append, List.nil_append, List.length_cons, List.length_nil, Nat.reduceAdd, Nat.reduceSub, Nat.reduceLT, if_true, if_false, ite_true, ite_false, reduceIte, Bool.not_true, Bool.not_false, Bool.false_eq_true, eq_self, chain_v]
    cases hs : short 8 w with
    | false =>
      have hn : isName w = false := by
        unfold isName
        rw [hs, Bool.false_and]
      simp only [ev_seq, at_nx, at_rt, toS_ok, bind_ok, ev_if, ev_set, ev_ret, ev_drop, ev_var, ev_move, ev_c, ev_nil, ev_cons, ev_tup, ev_lst, ev_B, asBl_bl, ev_and, ev_or, ev_not, ev_ifx, ev_andV, ev_orV, ev_notV, ev_op1n, ev_op1x, ev_op2nn, ev_op2nx, ev_op2xn, ev_op2xx, fin_val, fin_new, fin_ite, asStr_str, ev_m0, ev_m1n, ev_m1x, asInt_int, part_none, part_n, part_x, ev_sln, ev_slx, ev_chain, rd_0, st_0, rd_1, st_1, rd_2, st_2, rd_3, st_3, rd_4, st_4, rd_5, st_5, rd_6, st_6, rd_7, st_7, rd_8, st_8, rd_9, st_9, rd_10, st_10, rd_11, st_11, D.frz, D.frzs, Kd.frz, Md.sh', Nk.kd, List.map_cons, List.map_nil, List.replicate_zero, List.replicate_succ, List.cons_append, List.nil_append, List.length_cons, List.length_nil, Nat.reduceAdd, Nat.reduceSub, Nat.reduceLT, if_true, if_false, ite_true, ite_false, reduceIte, Bool.not_true, Bool.not_false, Bool.false_eq_true, eq_self, cl_is_name, hI, hn, n6, Bool.and_false, decide_true]
    | true =>
      have hn : isName w = !inD (.str w) noNames := by
        unfold isName
        rw [hs, ha, Bool.true_and, Bool.true_and]
      simp only [ev_seq, at_nx, at_rt, toS_ok, bind_ok, ev_if, ev_set, ev_ret, ev_drop, ev_var, ev_move, ev_c, ev_nil, ev_cons, ev_tup, ev_lst, ev_B, asBl_bl, ev_and, ev_or, ev_not, ev_ifx, ev_andV, ev_orV, ev_notV, ev_op1n, ev_op1x, ev_op2nn, ev_op2nx, ev_op2xn, ev_op2xx, fin_val, fin_new, fin_ite, asStr_str, ev_m0, ev_m1n, ev_m1x, asInt_int, part_none, part_n, part_x, ev_sln, ev_slx, ev_chain, rd_0, st_0, rd_1, st_1, rd_2, st_2, rd_3, st_3, rd_4, st_4, rd_5, st_5, rd_6, st_6, rd_7, st_7, rd_8, st_8, rd_9, st_9, rd_10, st_10, rd_11, st_11, D.frz, D.frzs, Kd.frz, Md.sh', Nk.kd, List.map_cons, List.map_nil, List.replicate_zero, List.replicate_succ, List.cons_append, List.nil_append, List.length_cons, List.length_nil, Nat.reduceAdd, Nat.reduceSub, Nat.reduceLT, if_true, if_false, ite_true, ite_false, reduceIte, Bool.not_true, Bool.not_false, Bool.false_eq_true, eq_self, cl_is_name, hI, hn, n6, Bool.true_and, Bool.and_self, h7, e8, decide_true]
end K01

namespace K01
open PySem PySem.Spec L2 DN TL
theorem mulOk_of {i j : Int} {a b : Nat} (ha : i.natAbs < 2 ^ a) (hb : j.natAbs < 2 ^ b) (h0 : 0 < a) (h1 : 0 < b) (h : a + b ≤ 1000000) : mulOk i j = true := decide_eq_true (wide_mul ha hb h0 h1 h)
def mixT (c k : Int) : Int := c % 1000000007 + 7919 * k + 13
def mixed (c k : Int) : Int := mixT c k * mixT c k % 1000000007 * 48271 % 2147483647
theorem mixed_ge (c k : Int) : 0 ≤ mixed c k := Int.emod_nonneg _ (by decide)
theorem mixed_lt (c k : Int) : mixed c k < 2147483647 := Int.emod_lt_of_pos _ (by decide)
theorem fMul_v {i j : Int} (h : mulOk i j = true) : fMul [.int i, .int j] = .val (.int (i * j)) := by
  show fI2 mulOk (fun i j => .int (i * j)) [.int i, .int j] = _
  rw [fI2_v h]
theorem fAdd_v (i j : Int) : fAdd [.int i, .int j] = .val (.int (i + j)) := rfl
theorem fSub_v (i j : Int) : fSub [.int i, .int j] = .val (.int (i - j)) := rfl
theorem fMod_v {i j : Int} (h : 0 < j) : fMod [.int i, .int j] = .val (.int (i % j)) := by
  show fI2 (fun _ j => decide (0 < j)) (fun i j => .int (i % j)) [.int i, .int j] = _
  rw [fI2_v (decide_eq_true h)]
theorem ap_mixed (c k : Int) (h0 : 0 ≤ k) (h1 : k < 1000) (δ : DN.Env) : app m__law_mixed [.int c, .int k] δ = .ok (.int (mixed c k)) δ := by
  have a0 : 0 ≤ c % 1000000007 := Int.emod_nonneg _ (by decide)
  have a1 : c % 1000000007 < 1000000007 := Int.emod_lt_of_pos _ (by decide)
  have b0 : 0 ≤ mixT c k * mixT c k % 1000000007 := Int.emod_nonneg _ (by decide)
  have b1 : mixT c k * mixT c k % 1000000007 < 1000000007 := Int.emod_lt_of_pos _ (by decide)
  have t0 : 0 ≤ mixT c k := by unfold mixT; omega
  have t1 : mixT c k < 2000000000 := by unfold mixT; omega
  have m1 : fMul [.int 7919, .int k] = .val (.int (7919 * k)) := fMul_v (mulOk_of (a := 32) (b := 32) (by decide) (by omega) (by decide) (by decide) (by decide))
  have m2 : fMul [.int (mixT c k), .int (mixT c k)] = .val (.int (mixT c k * mixT c k)) := fMul_v (mulOk_of (a := 32) (b := 32) (by omega) (by omega) (by decide) (by decide) (by decide))
  have m3 : fMul [.int (mixT c k * mixT c k % 1000000007), .int 48271] = .val (.int (mixT c k * mixT c k % 1000000007 * 48271)) := fMul_v (mulOk_of (a := 32) (b := 32) (by omega) (by decide) (by decide) (by decide) (by decide))
  have p1 : (0 : Int) < 1000000007 := by decide
  have p2 : (0 : Int) < 2147483647 := by decide
  have e0 : c % 1000000007 + 7919 * k + 13 = mixT c k := rfl
  refine app_of (ret_rt rfl (δ := [some (.int (mixT c k)), some (.int k)]) ?_)
  show b__law_mixed [some (.int c), some (.int k)] = _
  unfold b__law_mixed
  simp only [ev_seq, at_nx, at_rt, toS_ok, bind_ok, ev_if, ev_set, ev_ret, ev_drop, ev_var, ev_move, ev_c, ev_nil, ev_cons, ev_tup, ev_lst, ev_B, asBl_bl, ev_and, ev_or, ev_not, ev_ifx, ev_andV, ev_orV, ev_notV, ev_op1n, ev_op1x, ev_op2nn, ev_op2nx, ev_op2xn, ev_op2xx, fin_val, fin_new, fin_ite, asStr_str, ev_m0, ev_m1n, ev_m1x, asInt_int, part_none, part_n, part_x, ev_sln, ev_slx, ev_chain, rd_0, st_0, rd_1, st_1, rd_2, st_2, rd_3, st_3, rd_4, st_4, rd_5, st_5, rd_6, st_6, rd_7, st_7, rd_8, st_8, rd_9, st_9, rd_10, st_10, rd_11, st_11, D.frz, D.frzs, Kd.frz, Md.sh', Nk.kd, List.map_cons, List.map_nil, List.replicate_zero, List.replicate_succ, List.cons_append, List.nil_append, List.length_cons, List.length_nil, Nat.reduceAdd, Nat.reduceSub, Nat.reduceLT, if_true, if_false, ite_true, ite_false, reduceIte, Bool.not_true, Bool.not_false, Bool.false_eq_true, eq_self, fMod_v p1, fMod_v p2, m1, m2, m3, fAdd_v, e0]
  rfl
/-! ### drawn words -/
def pick (y : Str) (n k : Int) : Nat := (tl y).getD (mixed n k % (y.length : Int)).toNat 0
theorem pick_mem {y : Str} (hy : 0 < y.length) (n k : Int) : atI (tl y) (mixed n k % (y.length : Int)) = some (pick y n k) ∧ pick y n k ∈ tl y := by
  have h0 : 0 ≤ mixed n k % (y.length : Int) := Int.emod_nonneg _ (by omega)
  have h1 : mixed n k % (y.length : Int) < (y.length : Int) := Int.emod_lt_of_pos _ (by omega)
  generalize hm : mixed n k % (y.length : Int) = m at h0 h1
  unfold pick
  rw [hm]
  have hl : m.toNat < (tl y).length := by rw [← len_tl]; omega
  have e : (tl y)[m.toNat]? = some ((tl y)[m.toNat]) := List.getElem?_eq_getElem hl
  have e2 : (tl y).getD m.toNat 0 = (tl y)[m.toNat] := by
    rw [List.getD_eq_getElem?_getD, e]
    rfl
  rw [e2]
  refine ⟨?_, List.getElem_mem hl⟩
  have key : atI (tl y) ((m.toNat : Nat) : Int) = some ((tl y)[m.toNat]) := atI_nat e
  rw [show ((m.toNat : Nat) : Int) = m by omega] at key
  exact key
def drawn (n : Int) (y : Str) : List Str := (List.range (n % 13).toNat).map fun (k : Nat) => ⟨#[pick y n (0 + (k : Int))]⟩
theorem tl_glue (l : List Str) : tl (Txt.join "" l) = (l.map tl).flatten := by
  rw [join_eq, tl_join, show tl ("" : Str) = [] by decide +kernel]
  induction l with
  | nil => rfl
  | cons x l ih =>
    cases l with
    | nil => simp [joinL]
    | cons z r =>
      show tl x ++ ([] ++ joinL [] ((z :: r).map tl)) = _
      rw [ih]
      simp
theorem sum_ones : ∀ {l : List Str}, (∀ x ∈ l, x.length = 1) → (l.map (·.length)).sum = l.length
  | [], _ => rfl
  | x :: l, h => by
    rw [List.map_cons, List.sum_cons, sum_ones fun y hy => h y (List.mem_cons_of_mem _ hy), h x List.mem_cons_self, List.length_cons]
    omega
theorem ap_word (n : Int) (y : Str) (hn : 0 ≤ n) (hy : 0 < y.length) (hy2 : y.length ≤ 1000) (δ : DN.Env) : app m__law_word [.int n, .str y] δ = .ok (.str (Txt.join "" (drawn n y))) δ := by
  have r0 : 0 ≤ n % 13 := Int.emod_nonneg _ (by decide)
  have r1 : n % 13 < 13 := Int.emod_lt_of_pos _ (by decide)
  have p13 : (0 : Int) < 13 := by decide
  have hlen : (0 : Int) < (y.length : Int) := by omega
  have e1 : mRng1 (mCons (mOp fMod [(.nm 0), (.ex (mC (.int 13)))]) mNil) [some (.int n), some (.str y), none] = .ok (rangeD 0 (n % 13).toNat) [some (.int n), some (.str y), none] := by
    unfold mRng1
    simp only [ev_seq, at_nx, at_rt, toS_ok, bind_ok, ev_if, ev_set, ev_ret, ev_drop, ev_var, ev_move, ev_c, ev_nil, ev_cons, ev_tup, ev_lst, ev_B, asBl_bl, ev_and, ev_or, ev_not, ev_ifx, ev_andV, ev_orV, ev_notV, ev_op1n, ev_op1x, ev_op2nn, ev_op2nx, ev_op2xn, ev_op2xx, fin_val, fin_new, fin_ite, asStr_str, ev_m0, ev_m1n, ev_m1x, asInt_int, part_none, part_n, part_x, ev_sln, ev_slx, ev_chain, rd_0, st_0, rd_1, st_1, rd_2, st_2, rd_3, st_3, rd_4, st_4, rd_5, st_5, rd_6, st_6, rd_7, st_7, rd_8, st_8, rd_9, st_9, rd_10, st_10, rd_11, st_11, D.frz, D.frzs, Kd.frz, Md.sh', Nk.kd, List.map_cons, List.map_nil, List.replicate_zero, List.replicate_succ, List.cons_append, List.nil_append, List.length_cons, List.length_nil, Nat.reduceAdd, Nat.reduceSub, Nat.reduceLT, if_true, if_false, ite_true, ite_false, reduceIte, Bool.not_true, Bool.not_false, Bool.false_eq_true, eq_self, fMod_v p13]
    show (if inR (n % 13) = true then _ else _) = _
    rw [if_pos (by unfold inR; rw [decide_eq_true (show -(2 ^ 62) ≤ n % 13 by omega), decide_eq_true (show n % 13 < 2 ^ 62 by omega)]; rfl)]
  have e2 : mLc (.nm 2) [2] (mRng1 (mCons (mOp fMod [(.nm 0), (.ex (mC (.int 13)))]) mNil)) mYes (mOp fIx [(.nm 1), (.ex (mOp fMod [(.ex (mCall m__law_mixed [.val (mVar 0), .val (mVar 2)])), (.ex (mOp fLen [(.nm 1)]))]))]) [some (.int n), some (.str y), none] = .ok (.lst .own ((drawn n y).map .str)) [some (.int n), some (.str y), none] := by
    unfold mLc
    rw [e1, bind_ok, if_pos (by rfl)]
    have h := loopC_map (g := .nm 2) (is := [2]) (m := mOp fIx [(.nm 1), (.ex (mOp fMod [(.ex (mCall m__law_mixed [.val (mVar 0), .val (mVar 2)])), (.ex (mOp fLen [(.nm 1)]))]))]) (δ := [some (.int n), some (.str y), none]) (f := fun x => match x with | .int k => .str ⟨#[pick y n k]⟩ | _ => .non) (rangeD 0 (n % 13).toNat) [] (fun x hx => by
      unfold rangeD at hx
      obtain ⟨k, hk, rfl⟩ := List.mem_map.mp hx
      have hk' : k < (n % 13).toNat := List.mem_range.mp hk
      refine ⟨[some (.int n), some (.str y), some (.int (0 + (k : Int)))], [some (.int n), some (.str y), some (.int (0 + (k : Int)))], rfl, ?_, rfl, rfl⟩
      have hm := ap_mixed n (0 + (k : Int)) (by omega) (by omega)
      have hix : fIx [.str y, .int (mixed n (0 + (k : Int)) % (y.length : Int))] = .val (.str ⟨#[pick y n (0 + (k : Int))]⟩) := by
        show (if y.length ≤ sizeLine then (match atI (tl y) (mixed n (0 + (k : Int)) % (y.length : Int)) with
          | some c => Res.val (.str ⟨#[c]⟩)
          | none => .bad) else .bad) = _
        rw [if_pos (Nat.le_trans hy2 (by decide)), (pick_mem hy n _).1]
      simp only [ev_seq, at_nx, at_rt, toS_ok, bind_ok, ev_if, ev_set, ev_ret, ev_drop, ev_var, ev_move, ev_c, ev_nil, ev_cons, ev_tup, ev_lst, ev_B, asBl_bl, ev_and, ev_or, ev_not, ev_ifx, ev_andV, ev_orV, ev_notV, ev_op1n, ev_op1x, ev_op2nn, ev_op2nx, ev_op2xn, ev_op2xx, fin_val, fin_new, fin_ite, asStr_str, ev_m0, ev_m1n, ev_m1x, asInt_int, part_none, part_n, part_x, ev_sln, ev_slx, ev_chain, rd_0, st_0, rd_1, st_1, rd_2, st_2, rd_3, st_3, rd_4, st_4, rd_5, st_5, rd_6, st_6, rd_7, st_7, rd_8, st_8, rd_9, st_9, rd_10, st_10, rd_11, st_11, D.frz, D.frzs, Kd.frz, Md.sh', Nk.kd, List.map_cons, List.map_nil, List.replicate_zero, List.replicate_succ, List.cons_append, List.nil_append, List.length_cons, List.length_nil, Nat.reduceAdd, Nat.reduceSub, Nat.reduceLT, if_true, if_false, ite_true, ite_false, reduceIte, Bool.not_true, Bool.not_false, Bool.false_eq_true, eq_self, cl__law_mixed, hm, len_ok (show y.length ≤ 100000 by omega), fMod_v hlen, hix]) (by
      unfold rangeD
      rw [List.length_nil, Nat.zero_add, List.length_map, List.length_range]
      exact Nat.le_trans (show (n % 13).toNat ≤ 13 by omega) (by decide))
    rw [show wipeD [some (D.int n), some (D.str y), none] [2] = [some (.int n), some (.str y), none] from rfl, h]
    unfold rangeD drawn
    rw [bind_ok, List.nil_append, List.map_map, List.map_map]
    rfl
  have hj : fJoin "" [.con (.lst .sh) ((drawn n y).map .str)] = .val (.str (Txt.join "" (drawn n y))) := by
    show (match strsD ((drawn n y).map .str) with
      | some ys => if (List.map (fun x : Str => x.length) ys).sum + ys.length * ("" : Str).length ≤ 16777216 then Res.val (.str (Txt.join "" ys)) else .bad
      | none => .bad) = _
    rw [strsD_map]
    dsimp only
    have hl : (drawn n y).length ≤ 13 := by
      unfold drawn
      rw [List.length_map, List.length_range]
      omega
    have hs : ((drawn n y).map (·.length)).sum = (drawn n y).length := sum_ones fun x hx => by
      unfold drawn at hx
      obtain ⟨k, _, rfl⟩ := List.mem_map.mp hx
      rfl
    rw [if_pos]
    rw [hs, show ("" : Str).length = 0 by decide +kernel]
    omega
  refine app_of (ret_rt rfl (δ := [some (.int n), some (.str y), none]) ?_)
  show b__law_word [some (.int n), some (.str y), none] = _
  unfold b__law_word
  simp only [ev_seq, at_nx, at_rt, toS_ok, bind_ok, ev_if, ev_set, ev_ret, ev_drop, ev_var, ev_move, ev_c, ev_nil, ev_cons, ev_tup, ev_lst, ev_B, asBl_bl, ev_and, ev_or, ev_not, ev_ifx, ev_andV, ev_orV, ev_notV, ev_op1n, ev_op1x, ev_op2nn, ev_op2nx, ev_op2xn, ev_op2xx, fin_val, fin_new, fin_ite, asStr_str, ev_m0, ev_m1n, ev_m1x, asInt_int, part_none, part_n, part_x, ev_sln, ev_slx, ev_chain, rd_0, st_0, rd_1, st_1, rd_2, st_2, rd_3, st_3, rd_4, st_4, rd_5, st_5, rd_6, st_6, rd_7, st_7, rd_8, st_8, rd_9, st_9, rd_10, st_10, rd_11, st_11, D.frz, D.frzs, Kd.frz, Md.sh', Nk.kd, List.map_cons, List.map_nil, List.replicate_zero, List.replicate_succ, List.cons_append, List.nil_append, List.length_cons, List.length_nil, Nat.reduceAdd, Nat.reduceSub, Nat.reduceLT, if_true, if_false, ite_true, ite_false, reduceIte, Bool.not_true, Bool.not_false, Bool.false_eq_true, eq_self, e2, frzs_of_pure _ (pures_strs (drawn n y)), hj]
theorem drawn_len (n : Int) (y : Str) : (Txt.join "" (drawn n y)).length ≤ 12 := by
  have r0 : 0 ≤ n % 13 := Int.emod_nonneg _ (by decide)
  have r1 : n % 13 < 13 := Int.emod_lt_of_pos _ (by decide)
  rw [len_tl, tl_glue, List.length_flatten, List.map_map]
  have hs : ((drawn n y).map (List.length ∘ tl)).sum = (drawn n y).length := by
    rw [show (List.length ∘ tl) = (fun x : Str => x.length) from funext fun x => (len_tl x).symm]
    exact sum_ones fun x hx => by
      unfold drawn at hx
      obtain ⟨k, _, rfl⟩ := List.mem_map.mp hx
      rfl
  rw [hs]
  unfold drawn
  rw [List.length_map, List.length_range]
  omega
theorem drawn_mem {n : Int} {y : Str} (hy : 0 < y.length) {c : Nat} (h : c ∈ tl (Txt.join "" (drawn n y))) : c ∈ tl y := by
  rw [tl_glue] at h
  obtain ⟨l, hl, hc⟩ := List.mem_flatten.mp h
  obtain ⟨x, hx, rfl⟩ := List.mem_map.mp hl
  unfold drawn at hx
  obtain ⟨k, _, rfl⟩ := List.mem_map.mp hx
  have : c = pick y n (0 + (k : Int)) := by simpa using hc
  rw [this]
  exact (pick_mem hy n _).2
/-! ### rows of words -/
def hasNil (l : List Str) : Bool := inD (.str "") (l.map .str)
theorem hasNil_iff (l : List Str) : hasNil l = decide (("" : Str) ∈ l) := by
  unfold hasNil inD inV
  rw [map_sc_strs, List.any_map]
  induction l with
  | nil => rfl
  | cons x l ih =>
    rw [List.any_cons, ih]
    show ((x == ("" : Str)) || _) = _
    by_cases h : x = ""
    · subst h
      simp
    · have h2 : ¬ ("" : Str) = x := fun e => h e.symm
      simp [h, h2]
def partsD (l : List Str) : D := if hasNil l = true then .non else .lst .own (l.map .str)
theorem all_sc (l : List Str) : (l.map D.str).all isSc = true := all_sc_strs l
theorem fIn_strs (neg : Bool) (x : Str) (m : Md) (l : List Str) : fIn neg [.str x, .con (.lst m) (l.map .str)] = .val (.bl (if neg then !inD (.str x) (l.map .str) else inD (.str x) (l.map .str))) := by
  unfold fIn inAny
  show (match (inSeq [.str x, .con (.lst m) (l.map .str)]).map (fun p => inD p.1 p.2) with
    | some b => Res.val (.bl (if neg then !b else b))
    | none => .bad) = _
  have : inSeq [.str x, .con (.lst m) (l.map .str)] = some (.str x, l.map .str) := by
    show (if (isSc (.str x) && (l.map D.str).all isSc) = true then _ else none) = _
    rw [all_sc]
    rfl
  rw [this]
  rfl
theorem split_v {x : Str} (hx : x.length ≤ 100000) : fSplit x [.str " "] = .new .lst ((Txt.split x " ").map .str) := by
  show (if (!((" " : Str).length == 0) && decide (x.length + 2 ≤ sizeLine)) = true then Res.new .lst ((Txt.split x " ").map .str) else .bad) = _
  rw [decide_eq_true (show x.length + 2 ≤ sizeLine by have : (100002 : Nat) ≤ sizeLine := by decide
                                                      omega)]
  rw [if_pos (by decide +kernel)]
theorem ap_words_of (x : Str) (hx : x.length ≤ 100000) (δ : DN.Env) : app m_words_of [.str x] δ = .ok (partsD (Txt.split x " ")) δ := by
  have e2 := fIn_strs false "" .own (Txt.split x " ")
  unfold partsD
  cases hn : hasNil (Txt.split x " ") with
  | true =>
    refine app_of (ret_rt rfl (δ := [some (.str x), some (.lst .own ((Txt.split x " ").map .str))]) ?_)
    show b_words_of [some (.str x), none] = _
    unfold b_words_of
    unfold hasNil at hn
    simp only [ev_seq, at_nx, at_rt, toS_ok, bind_ok, ev_if, ev_set, ev_ret, ev_drop, ev_var, ev_move, ev_c, ev_nil, ev_cons, ev_tup, ev_lst, ev_B, asBl_bl, ev_and, ev_or, ev_not, ev_ifx, ev_andV, ev_orV, ev_notV, ev_op1n, ev_op1x, ev_op2nn, ev_op2nx, ev_op2xn, ev_op2xx, fin_val, fin_new, fin_ite, asStr_str, ev_m0, ev_m1n, ev_m1x, asInt_int, part_none, part_n, part_x, ev_sln, ev_slx, ev_chain, rd_0, st_0, rd_1, st_1, rd_2, st_2, rd_3, st_3, rd_4, st_4, rd_5, st_5, rd_6, st_6, rd_7, st_7, rd_8, st_8, rd_9, st_9, rd_10, st_10, rd_11, st_11, D.frz, D.frzs, Kd.frz, Md.sh', Nk.kd, List.map_cons, List.map_nil, List.replicate_zero, List.replicate_succ, List.cons_append, List.nil_append, List.length_cons, List.length_nil, Nat.reduceAdd, Nat.reduceSub, Nat.reduceLT, if_true, if_false, ite_true, ite_false, reduceIte, Bool.not_true, Bool.not_false, Bool.false_eq_true, eq_self, isi_str, split_v hx, e2, hn]
  | false =>
    refine app_of (ret_rt rfl (δ := [some (.str x), none]) ?_)
    show b_words_of [some (.str x), none] = _
    unfold b_words_of
    unfold hasNil at hn
    simp only [ev_seq, at_nx, at_rt, toS_ok, bind_ok, ev_if, ev_set, ev_ret, ev_drop, ev_var, ev_move, ev_c, ev_nil, ev_cons, ev_tup, ev_lst, ev_B, asBl_bl, ev_and, ev_or, ev_not, ev_ifx, ev_andV, ev_orV, ev_notV, ev_op1n, ev_op1x, ev_op2nn, ev_op2nx, ev_op2xn, ev_op2xx, fin_val, fin_new, fin_ite, asStr_str, ev_m0, ev_m1n, ev_m1x, asInt_int, part_none, part_n, part_x, ev_sln, ev_slx, ev_chain, rd_0, st_0, rd_1, st_1, rd_2, st_2, rd_3, st_3, rd_4, st_4, rd_5, st_5, rd_6, st_6, rd_7, st_7, rd_8, st_8, rd_9, st_9, rd_10, st_10, rd_11, st_11, D.frz, D.frzs, Kd.frz, Md.sh', Nk.kd, List.map_cons, List.map_nil, List.replicate_zero, List.replicate_succ, List.cons_append, List.nil_append, List.length_cons, List.length_nil, Nat.reduceAdd, Nat.reduceSub, Nat.reduceLT, if_true, if_false, ite_true, ite_false, reduceIte, Bool.not_true, Bool.not_false, Bool.false_eq_true, eq_self, isi_str, split_v hx, e2, hn]
theorem blank_tl : tl (" " : Str) = [32] := by decide +kernel
/-- a word of a row -/
structure Word (w : Str) : Prop where
  ne : w ≠ ""
  free : 32 ∉ tl w
  len : w.length ≤ 13
  ok : valid (tl w)
theorem split_row {ws : List Str} (h : ∀ w ∈ ws, Word w) (hne : ws ≠ []) : Txt.split (Txt.join " " ws) " " = ws := by
  exact split_join (y := " ") (s := 32) (S := []) blank_tl (by decide +kernel) hne fun p hp => (h p hp).free
theorem row_len {ws : List Str} (h : ∀ w ∈ ws, Word w) : (Txt.join " " ws).length ≤ ws.length * 14 := by
  rw [join_eq]
  refine Nat.le_trans (StrLaws.join_length_le _ _) ?_
  have h1 : (" " : Str).length = 1 := by decide +kernel
  rw [h1]
  have h2 : (ws.map fun x : Str => x.length).sum ≤ ws.length * 13 := by
    induction ws with
    | nil => exact Nat.zero_le _
    | cons w ws ih =>
      rw [List.map_cons, List.sum_cons, List.length_cons]
      have := ih fun x hx => h x (List.mem_cons_of_mem _ hx)
      have := (h w List.mem_cons_self).len
      omega
  omega
theorem noNil {ws : List Str} (h : ∀ w ∈ ws, Word w) : hasNil ws = false := by
  rw [hasNil_iff]
  exact decide_eq_false fun hm => (h _ hm).ne rfl
theorem join_valid {S : List Nat} (hS : valid S) : ∀ {l : List (List Nat)}, (∀ p ∈ l, valid p) → valid (joinL S l)
  | [], _ => fun c hc => by cases hc
  | [p], h => h p List.mem_cons_self
  | p :: q :: r, h => by
    intro c hc
    have hc' : c ∈ p ++ (S ++ joinL S (q :: r)) := hc
    rcases List.mem_append.mp hc' with k | k
    · exact h p List.mem_cons_self c k
    · rcases List.mem_append.mp k with k | k
      · exact hS c k
      · exact join_valid hS (fun x hx => h x (List.mem_cons_of_mem _ hx)) c k
theorem parts_valid {S : List Nat} : ∀ {l : List (List Nat)}, valid (joinL S l) → ∀ p ∈ l, valid p
  | [], _, p, hp => by cases hp
  | [q], h, p, hp => by
    rw [List.mem_singleton.mp hp]
    exact h
  | q :: r :: t, h, p, hp => by
    have h' : valid (q ++ (S ++ joinL S (r :: t))) := h
    rcases List.mem_cons.mp hp with e | e
    · rw [e]
      exact fun c hc => h' c (List.mem_append_left _ hc)
    · exact parts_valid (S := S) (l := r :: t) (fun c hc => h' c (List.mem_append_right _ (List.mem_append_right _ hc))) p e
theorem split_valid {x : Str} (h : valid (tl x)) : ∀ p ∈ Txt.split x " ", valid (tl p) := by
  intro p hp
  have e := StrLaws.join_split x " "
  have e2 := congrArg tl e
  rw [tl_join] at e2
  rw [← e2] at h
  exact parts_valid h _ (List.mem_map_of_mem hp)
end K01

namespace K01
open PySem PySem.Spec L2 DN TL
/-! ### one row -/
theorem line_big : 100000 ≤ sizeLine := by decide
theorem sl_hi {x : Str} (hx : x.length ≤ 100000) (a : Nat) (ha : a ≤ x.length) : fSl none (some (a : Int)) [.str x] = .val (.str ⟨((tl x).take a).toArray⟩) := by
  show (if x.length ≤ sizeLine then Res.val (.str (cutS x none (some (a : Int)))) else .bad) = _
  rw [if_pos (Nat.le_trans hx line_big)]
  unfold cutS
  rw [HT.sIx_none, HT.sIx_nat, List.drop_zero, Nat.sub_zero, Nat.min_eq_left ha]
theorem sl_lo {x : Str} (hx : x.length ≤ 100000) (a : Nat) (ha : a ≤ x.length) : fSl (some (a : Int)) none [.str x] = .val (.str ⟨((tl x).drop a).toArray⟩) := by
  show (if x.length ≤ sizeLine then Res.val (.str (cutS x (some (a : Int)) none)) else .bad) = _
  rw [if_pos (Nat.le_trans hx line_big)]
  unfold cutS
  rw [HT.sIx_none, HT.sIx_nat, Nat.min_eq_left ha]
  congr 3
  rw [show x.cps.toList = tl x from rfl, List.take_of_length_le (by rw [List.length_drop, ← len_tl]; omega)]
theorem fAdd_s {x y : Str} (h : x.length + y.length ≤ 100000) : fAdd [.str x, .str y] = .val (.str (x ++ y)) := by
  show (if decide (x.length + y.length ≤ sizeLine) = true then Res.val (.str (x ++ y)) else .bad) = _
  rw [if_pos (decide_eq_true (Nat.le_trans h line_big))]
theorem tl_app (x y : Str) : tl (x ++ y) = tl x ++ tl y := by
  show ((x.cps ++ y.cps).toList) = _
  rw [Array.toList_append]
theorem len_app (x y : Str) : (x ++ y).length = x.length + y.length := by
  rw [len_tl, tl_app, List.length_append, ← len_tl, ← len_tl]
theorem tl_mk (l : List Nat) : tl (⟨l.toArray⟩ : Str) = l := rfl
theorem len_mk (l : List Nat) : (⟨l.toArray⟩ : Str).length = l.length := by rw [len_tl, tl_mk]
theorem loop_step {g : Tg} {m : MS} {x : D} {xs : List D} {δ δ1 δ2 : DN.Env} (h : g.put x δ = some δ1) (h2 : m δ1 = .nx δ2) : loop g m (x :: xs) δ = loop g m xs δ2 := by
  show (match g.put x δ with
    | none => RS.bad
    | some δ1 => match m δ1 with
      | .nx δ2 => loop g m xs δ2
      | .ct δ2 => loop g m xs δ2
      | .bk δ2 => .nx δ2
      | r => r) = _
  rw [h]
  dsimp only
  rw [h2]
theorem valid_blank : valid (tl " ") := by
  rw [blank_tl]
  intro c hc
  rw [List.mem_singleton.mp hc]
  decide
theorem valid_app {x y : Str} (h : valid (tl x)) (h2 : valid (tl y)) : valid (tl (x ++ y)) := by
  rw [tl_app]
  exact fun c hc => (List.mem_append.mp hc).elim (h c) (h2 c)
theorem ap_row_of (y : Str) (hy : y.length ≤ 100000) (hv : valid (tl y)) : ∃ d, app m_words_of [.str y] = (fun δ => .ok d δ) ∧ fEq [d.frz, (if hasNil (Txt.split y " ") = true then D.non else .con (.lst .sh) ((Txt.split y " ").map .str))] = .val (.bl true) := by
  refine ⟨partsD (Txt.split y " "), funext fun δ => ap_words_of y hy δ, ?_⟩
  unfold partsD
  cases hn : hasNil (Txt.split y " ") with
  | true => rfl
  | false =>
    have hs := split_valid hv
    have hp := frzs_of_pure _ (pures_strs (Txt.split y " "))
    simp only [ev_seq, at_nx, at_rt, toS_ok, bind_ok, ev_if, ev_set, ev_ret, ev_drop, ev_var, ev_move, ev_c, ev_nil, ev_cons, ev_tup, ev_lst, ev_B, asBl_bl, ev_and, ev_or, ev_not, ev_ifx, ev_andV, ev_orV, ev_notV, ev_op1n, ev_op1x, ev_op2nn, ev_op2nx, ev_op2xn, ev_op2xx, fin_val, fin_new, fin_ite, asStr_str, ev_m0, ev_m1n, ev_m1x, asInt_int, part_none, part_n, part_x, ev_sln, ev_slx, ev_chain, rd_0, st_0, rd_1, st_1, rd_2, st_2, rd_3, st_3, rd_4, st_4, rd_5, st_5, rd_6, st_6, rd_7, st_7, rd_8, st_8, rd_9, st_9, rd_10, st_10, rd_11, st_11, D.frz, D.frzs, Kd.frz, Md.sh', Nk.kd, List.map_cons, List.map_nil, List.replicate_zero, List.replicate_succ, List.cons_append, List.nil_append, List.length_cons, List.length_nil, Nat.reduceAdd, Nat.reduceSub, Nat.reduceLT, if_true, if_false, ite_true, ite_false, reduceIte, Bool.not_true, Bool.not_false, Bool.false_eq_true, eq_self, hp]
    rw [fEq_strs .sh .sh hs hs]
    rw [decide_eq_true rfl]
theorem ap_law_row {ws : List Str} (n : Int) (h : ∀ w ∈ ws, Word w) (hne : ws ≠ []) (hl : ws.length ≤ 200) (δ : DN.Env) : app m__law_row [.con (.lst .sh) (ws.map .str), .int n] δ = .ok (.bl true) δ := by
  have hrl := row_len h
  have hsp := split_row h hne
  have hnn := noNil h
  have hv : ∀ w ∈ ws, valid (tl w) := fun w hw => (h w hw).ok
  have hxv : valid (tl (Txt.join " " ws)) := by
    rw [join_eq, tl_join]
    refine join_valid valid_blank fun p hp => ?_
    obtain ⟨w, hw, rfl⟩ := List.mem_map.mp hp
    exact hv w hw
  have hj : fJoin " " [.con (.lst .sh) (ws.map .str)] = .val (.str (Txt.join " " ws)) := by
    show (match strsD (ws.map .str) with
      | some ys => if (List.map (fun x : Str => x.length) ys).sum + ys.length * (" " : Str).length ≤ 16777216 then Res.val (.str (Txt.join " " ys)) else .bad
      | none => .bad) = _
    rw [strsD_map]
    dsimp only
    have hs : (ws.map fun x : Str => x.length).sum ≤ ws.length * 13 := by
      clear hrl hsp hnn hv hxv hl hne
      induction ws with
      | nil => exact Nat.zero_le _
      | cons w ws ih =>
        rw [List.map_cons, List.sum_cons, List.length_cons]
        have := ih fun x hx => h x (List.mem_cons_of_mem _ hx)
        have := (h w List.mem_cons_self).len
        omega
    rw [if_pos]
    rw [show (" " : Str).length = 1 by decide +kernel]
    omega
  have hw0 : ∀ δ, app m_words_of [.str (Txt.join " " ws)] δ = .ok (.con (.lst .own) (ws.map .str)) δ := fun δ => by
    have := ap_words_of (Txt.join " " ws) (by omega) δ
    rw [hsp] at this
    unfold partsD at this
    rw [hnn] at this
    exact this
  generalize hX : Txt.join " " ws = x at hrl hxv hj hw0
  have hlx : x.length ≤ 2800 := by omega
  have hisi : fIsi .list [.con (.lst .own) (ws.map D.str)] = .val (.bl true) := rfl
  have hneq : fNe [.con (.lst .own) (ws.map D.str), .con (.lst .sh) (ws.map D.str)] = .val (.bl false) := by
    rw [fNe_strs .own .sh hv hv, decide_eq_true rfl]
    rfl
  have happ : ∀ a b c d e f : Option D, sApp 6 (mC (.str "x")) [a, b, c, d, e, f, some (.con (.lst .own) (ws.map D.str))] = .nx [a, b, c, d, e, f, some (.con (.lst .own) (ws.map D.str ++ [.str "x"]))] := fun a b c d e f => by
    show (if (ws.map D.str).length < sizeLine then RS.nx [a, b, c, d, e, f, some (.con (.lst .own) (ws.map D.str ++ [.str "x"]))] else .bad) = _
    rw [if_pos]
    have := line_big
    rw [List.length_map]
    omega
  have hput : ∀ (i : Int) (a b c d e f g : Option D), (Tg.nm 3).put (.int i) [a, b, c, d, e, f, g] = some [a, b, c, some (.int i), e, f, g] := fun i a b c d e f g => rfl
  have hr : inR 2 = true := rfl
  have hrg : rangeD 0 (2 : Int).toNat = [.int (0 + ((0 : Nat) : Int)), .int (0 + ((1 : Nat) : Int))] := rfl
  have hmr : ∀ δ, mRng1 (mCons (mC (.int 2)) mNil) δ = .ok [.int 0, .int 1] δ := fun δ => rfl
  have hturn : ∀ (i : D) (f6 : Option D), (sSeq (sSet 6 (mCall m_words_of [.val (mVar 2)]))
      (sSeq (sIf (mOr (mNot (mB (mOp (fIsi .list) [(.nm 6)]))) (mB (mOp fNe [(.nm 6), (.nm 0)]))) (sRet (mC (.bl false))) (fun δ => .nx δ))
      (sApp 6 (mC (.str "x"))))) [some (.con (.lst .sh) (ws.map D.str)), some (.int n), some (.str x), some i, none, none, f6] = .nx [some (.con (.lst .sh) (ws.map D.str)), some (.int n), some (.str x), some i, none, none, some (.con (.lst .own) (ws.map D.str ++ [.str "x"]))] := fun i f6 => by
    simp only [ev_seq, at_nx, at_rt, toS_ok, bind_ok, ev_if, ev_set, ev_ret, ev_drop, ev_var, ev_move, ev_c, ev_nil, ev_cons, ev_tup, ev_lst, ev_B, asBl_bl, ev_and, ev_or, ev_not, ev_ifx, ev_andV, ev_orV, ev_notV, ev_op1n, ev_op1x, ev_op2nn, ev_op2nx, ev_op2xn, ev_op2xx, fin_val, fin_new, fin_ite, asStr_str, ev_m0, ev_m1n, ev_m1x, asInt_int, part_none, part_n, part_x, ev_sln, ev_slx, ev_chain, rd_0, st_0, rd_1, st_1, rd_2, st_2, rd_3, st_3, rd_4, st_4, rd_5, st_5, rd_6, st_6, rd_7, st_7, rd_8, st_8, rd_9, st_9, rd_10, st_10, rd_11, st_11, D.frz, D.frzs, Kd.frz, Md.sh', Nk.kd, List.map_cons, List.map_nil, List.replicate_zero, List.replicate_succ, List.cons_append, List.nil_append, List.length_cons, List.length_nil, Nat.reduceAdd, Nat.reduceSub, Nat.reduceLT, if_true, if_false, ite_true, ite_false, reduceIte, Bool.not_true, Bool.not_false, Bool.false_eq_true, eq_self, cl_words_of, hw0, hisi, hneq, happ]
  have hlen1 : (0 : Int) < (x.length : Int) + 1 := by omega
  have a0 : 0 ≤ n % ((x.length : Int) + 1) := Int.emod_nonneg _ (by omega)
  have a1 : n % ((x.length : Int) + 1) < (x.length : Int) + 1 := Int.emod_lt_of_pos _ hlen1
  obtain ⟨a, ha⟩ : ∃ a : Nat, n % ((x.length : Int) + 1) = (a : Int) := ⟨(n % ((x.length : Int) + 1)).toNat, by omega⟩
  have hax : a ≤ x.length := by omega
  have hs1 := sl_hi (show x.length ≤ 100000 by omega) a hax
  have hs2 := sl_lo (show x.length ≤ 100000 by omega) a hax
  have l1 : (⟨((tl x).take a).toArray⟩ : Str).length ≤ 2800 := by rw [len_mk, List.length_take, ← len_tl]; omega
  have l2 : (⟨((tl x).drop a).toArray⟩ : Str).length ≤ 2800 := by rw [len_mk, List.length_drop, ← len_tl]; omega
  have v1 : valid (tl (⟨((tl x).take a).toArray⟩ : Str)) := by
    rw [tl_mk]
    exact fun c hc => hxv c (List.mem_of_mem_take hc)
  have v2 : valid (tl (⟨((tl x).drop a).toArray⟩ : Str)) := by
    rw [tl_mk]
    exact fun c hc => hxv c (List.mem_of_mem_drop hc)
  generalize (⟨((tl x).take a).toArray⟩ : Str) = x1 at hs1 l1 v1
  generalize (⟨((tl x).drop a).toArray⟩ : Str) = x2 at hs2 l2 v2
  have lb : (" " : Str).length = 1 := by decide +kernel
  have c1 : fAdd [.str x1, .str " "] = .val (.str (x1 ++ " ")) := fAdd_s (by omega)
  have c2 : fAdd [.str (x1 ++ " "), .str x2] = .val (.str (x1 ++ " " ++ x2)) := fAdd_s (by rw [len_app]; omega)
  have ly : (x1 ++ " " ++ x2).length ≤ 100000 := by
    rw [len_app, len_app]
    omega
  have vy : valid (tl (x1 ++ " " ++ x2)) := valid_app (valid_app v1 valid_blank) v2
  generalize x1 ++ " " ++ x2 = y at c2 ly vy
  obtain ⟨d, hd1, hd2⟩ := ap_row_of y ly vy
  have hd1' : ∀ δ, app m_words_of [.str y] δ = .ok d δ := fun δ => by rw [hd1]
  have hin := fIn_strs false "" .own (Txt.split y " ")
  have hps := frzs_of_pure _ (pures_strs (Txt.split y " "))
  have hadd : fAdd [.int (x.length : Int), .int 1] = .val (.int ((x.length : Int) + 1)) := rfl
  have hloop : loop (.nm 3) (sSeq (sSet 6 (mCall m_words_of [.val (mVar 2)]))
      (sSeq (sIf (mOr (mNot (mB (mOp (fIsi .list) [(.nm 6)]))) (mB (mOp fNe [(.nm 6), (.nm 0)]))) (sRet (mC (.bl false))) (fun δ => .nx δ))
      (sApp 6 (mC (.str "x"))))) [.int 0, .int 1] [some (.con (.lst .sh) (ws.map D.str)), some (.int n), some (.str x), none, none, none, none] = .nx [some (.con (.lst .sh) (ws.map D.str)), some (.int n), some (.str x), some (.int 1), none, none, some (.con (.lst .own) (ws.map D.str ++ [.str "x"]))] := by
    rw [loop_step (hput _ _ _ _ _ _ _ _) (hturn _ _), loop_step (hput _ _ _ _ _ _ _ _) (hturn _ _)]
    rfl
  cases hn : hasNil (Txt.split y " ") with
  | true =>
    rw [hn, if_pos rfl] at hd2
    unfold hasNil at hn
    refine app_of (ret_rt rfl (δ := [some (.con (.lst .sh) (ws.map D.str)), some (.int n), some (.str x), some (.int 1), some (.int a), some (.con (.lst .own) ((Txt.split y " ").map D.str)), some (.con (.lst .own) (ws.map D.str ++ [.str "x"]))]) ?_)
    show b__law_row [some (.con (.lst .sh) (ws.map D.str)), some (.int n), none, none, none, none, none] = _
    unfold b__law_row
    simp only [ev_seq, at_nx, at_rt, toS_ok, bind_ok, ev_if, ev_set, ev_ret, ev_drop, ev_var, ev_move, ev_c, ev_nil, ev_cons, ev_tup, ev_lst, ev_B, asBl_bl, ev_and, ev_or, ev_not, ev_ifx, ev_andV, ev_orV, ev_notV, ev_op1n, ev_op1x, ev_op2nn, ev_op2nx, ev_op2xn, ev_op2xx, fin_val, fin_new, fin_ite, asStr_str, ev_m0, ev_m1n, ev_m1x, asInt_int, part_none, part_n, part_x, ev_sln, ev_slx, ev_chain, rd_0, st_0, rd_1, st_1, rd_2, st_2, rd_3, st_3, rd_4, st_4, rd_5, st_5, rd_6, st_6, rd_7, st_7, rd_8, st_8, rd_9, st_9, rd_10, st_10, rd_11, st_11, D.frz, D.frzs, Kd.frz, Md.sh', Nk.kd, List.map_cons, List.map_nil, List.replicate_zero, List.replicate_succ, List.cons_append, List.nil_append, List.length_cons, List.length_nil, Nat.reduceAdd, Nat.reduceSub, Nat.reduceLT, if_true, if_false, ite_true, ite_false, reduceIte, Bool.not_true, Bool.not_false, Bool.false_eq_true, eq_self, hj, hX, ev_for, hmr, hloop, len_ok (show x.length ≤ 100000 by omega), hadd, fMod_v hlen1, ha, hs1, hs2, c1, c2, split_v ly, cl_words_of, hd1', hin, hn, hd2]
  | false =>
    rw [hn, if_neg (by decide)] at hd2
    unfold hasNil at hn
    refine app_of (ret_rt rfl (δ := [some (.con (.lst .sh) (ws.map D.str)), some (.int n), some (.str x), some (.int 1), some (.int a), some (.con (.lst .sh) ((Txt.split y " ").map D.str)), some (.con (.lst .own) (ws.map D.str ++ [.str "x"]))]) ?_)
    show b__law_row [some (.con (.lst .sh) (ws.map D.str)), some (.int n), none, none, none, none, none] = _
    unfold b__law_row
    simp only [ev_seq, at_nx, at_rt, toS_ok, bind_ok, ev_if, ev_set, ev_ret, ev_drop, ev_var, ev_move, ev_c, ev_nil, ev_cons, ev_tup, ev_lst, ev_B, asBl_bl, ev_and, ev_or, ev_not, ev_ifx, ev_andV, ev_orV, ev_notV, ev_op1n, ev_op1x, ev_op2nn, ev_op2nx, ev_op2xn, ev_op2xx, fin_val, fin_new, fin_ite, asStr_str, ev_m0, ev_m1n, ev_m1x, asInt_int, part_none, part_n, part_x, ev_sln, ev_slx, ev_chain, rd_0, st_0, rd_1, st_1, rd_2, st_2, rd_3, st_3, rd_4, st_4, rd_5, st_5, rd_6, st_6, rd_7, st_7, rd_8, st_8, rd_9, st_9, rd_10, st_10, rd_11, st_11, D.frz, D.frzs, Kd.frz, Md.sh', Nk.kd, List.map_cons, List.map_nil, List.replicate_zero, List.replicate_succ, List.cons_append, List.nil_append, List.length_cons, List.length_nil, Nat.reduceAdd, Nat.reduceSub, Nat.reduceLT, if_true, if_false, ite_true, ite_false, reduceIte, Bool.not_true, Bool.not_false, Bool.false_eq_true, eq_self, hj, hX, ev_for, hmr, hloop, len_ok (show x.length ≤ 100000 by omega), hadd, fMod_v hlen1, ha, hs1, hs2, c1, c2, split_v ly, cl_words_of, hd1', hin, hn, hps, hd2]
end K01

namespace K01
open PySem PySem.Spec L2 DN TL
/-! ### one turn of the law -/
theorem valid_dec {x : Str} (h : (tl x).all (fun c => decide (c < 0x110000)) = true) : valid (tl x) := fun c hc => of_decide_eq_true (List.all_eq_true.mp h c hc)
theorem num_text (i : Int) (h0 : 0 ≤ i) (h1 : i < 100000000000) : ∃ z : Str, fStr [.int i] = .val (.str z) ∧ z.length ≤ 11 ∧ valid (tl z) ∧ 32 ∉ tl z ∧ z ≠ "" := by
  obtain ⟨n, rfl⟩ : ∃ n : Nat, i = (n : Int) := ⟨i.toNat, by omega⟩
  have hn : n < 10 ^ 11 := by
    have : (10 : Nat) ^ 11 = 100000000000 := by decide
    omega
  refine ⟨Str.ofString (toString ((n : Nat) : Int)), ?_, ?_, ?_, ?_, ?_⟩
  · show (if ((n : Int)).natAbs.log2 < 1920 then Res.val (.str (Str.ofString (toString ((n : Nat) : Int)))) else .bad) = _
    rw [if_pos]
    rw [Int.natAbs_natCast]
    by_cases hz : n = 0
    · subst hz
      decide +kernel
    · exact (Nat.log2_lt hz).mpr (Nat.lt_of_lt_of_le hn (by decide +kernel))
  · rw [len_tl, tl_num]
    exact numL_len (by decide) hn
  · rw [tl_num]
    intro c hc
    by_cases hk : c < 0x110000
    · exact hk
    · exact (numL_free (n := n) (s := c) (by omega) hc).elim
  · rw [tl_num]
    exact numL_free (by decide)
  · intro e
    have e2 := congrArg tl e
    rw [tl_num] at e2
    exact numL_ne n e2
def bsigns : MS := (sSeq (sSet 6 (mCall m__law_word [.val (mVar 3), .val (mVar 4)]))
  (sIf (mOr (mNot (mB (mCall m__law_one [.val (mVar 6)]))) (mNot (mB (mCall m__law_one [.val (mOp fAdd [(.ex (mC (.str "-"))), (.nm 6)])])))) (sRet (mC (.bl false))) (fun δ => .nx δ)))
def bwords : MS := (sIf (mNot (mB (mCall m__law_one [.val (mVar 6)]))) (sRet (mC (.bl false))) (fun δ => .nx δ))
section
variable (a0 a1 a2 a3 a4 a5 a6 a7 a8 a9 : Option D)
theorem valid_minus : valid (tl "-") := valid_dec (by decide +kernel)
theorem signs_loop (n : Int) (hn : 0 ≤ n) : ∀ (l : List Str), (∀ y ∈ l, 0 < y.length ∧ y.length ≤ 1000 ∧ valid (tl y)) → ∀ a4 a6 : Option D, ∃ a4' a6', loop (.nm 4) bsigns (l.map .str) [a0, a1, a2, some (.int n), a4, a5, a6, a7, a8, a9] = .nx [a0, a1, a2, some (.int n), a4', a5, a6', a7, a8, a9]
  | [], _, a4, a6 => ⟨a4, a6, rfl⟩
  | y :: l, h, a4, a6 => by
    obtain ⟨b4, b6, hb⟩ := signs_loop n hn l (fun z hz => h z (List.mem_cons_of_mem _ hz)) (some (.str y)) (some (.str (Txt.join "" (drawn n y))))
    refine ⟨b4, b6, ?_⟩
    obtain ⟨y0, y1, yv⟩ := h y List.mem_cons_self
    have hw := fun δ => ap_word n y hn y0 y1 δ
    have wl := drawn_len n y
    have wv : valid (tl (Txt.join "" (drawn n y))) := fun c hc => yv c (drawn_mem y0 hc)
    generalize Txt.join "" (drawn n y) = w at hw wl wv hb
    have h1 := fun δ => ap_law_one w (by omega) wv δ
    have lm : ("-" : Str).length = 1 := by decide +kernel
    have h2 := fun δ => ap_law_one ("-" ++ w) (by rw [len_app]; omega) (valid_app valid_minus wv) δ
    have c1 : fAdd [.str "-", .str w] = .val (.str ("-" ++ w)) := fAdd_s (by omega)
    rw [List.map_cons, loop_step (δ1 := [a0, a1, a2, some (.int n), some (.str y), a5, a6, a7, a8, a9]) rfl (δ2 := [a0, a1, a2, some (.int n), some (.str y), a5, some (.str w), a7, a8, a9]) ?_]
    · exact hb
    · unfold bsigns
      simp only [ev_seq, at_nx, at_rt, toS_ok, bind_ok, ev_if, ev_set, ev_ret, ev_drop, ev_var, ev_move, ev_c, ev_nil, ev_cons, ev_tup, ev_lst, ev_B, asBl_bl, ev_and, ev_or, ev_not, ev_ifx, ev_andV, ev_orV, ev_notV, ev_op1n, ev_op1x, ev_op2nn, ev_op2nx, ev_op2xn, ev_op2xx, fin_val, fin_new, fin_ite, asStr_str, ev_m0, ev_m1n, ev_m1x, asInt_int, part_none, part_n, part_x, ev_sln, ev_slx, ev_chain, rd_0, st_0, rd_1, st_1, rd_2, st_2, rd_3, st_3, rd_4, st_4, rd_5, st_5, rd_6, st_6, rd_7, st_7, rd_8, st_8, rd_9, st_9, rd_10, st_10, rd_11, st_11, D.frz, D.frzs, Kd.frz, Md.sh', Nk.kd, List.map_cons, List.map_nil, List.replicate_zero, List.replicate_succ, List.cons_append, List.nil_append, List.length_cons, List.length_nil, Nat.reduceAdd, Nat.reduceSub, Nat.reduceLT, if_true, if_false, ite_true, ite_false, reduceIte, Bool.not_true, Bool.not_false, Bool.false_eq_true, eq_self, cl__law_word, hw, cl__law_one, h1, h2, c1]
theorem words_loop : ∀ (l : List Str), (∀ y ∈ l, y.length ≤ 600 ∧ valid (tl y)) → ∀ a6 : Option D, ∃ a6', loop (.nm 6) bwords (l.map .str) [a0, a1, a2, a3, a4, a5, a6, a7, a8, a9] = .nx [a0, a1, a2, a3, a4, a5, a6', a7, a8, a9]
  | [], _, a6 => ⟨a6, rfl⟩
  | y :: l, h, a6 => by
    obtain ⟨b6, hb⟩ := words_loop l (fun z hz => h z (List.mem_cons_of_mem _ hz)) (some (.str y))
    refine ⟨b6, ?_⟩
    obtain ⟨y0, yv⟩ := h y List.mem_cons_self
    have h1 := fun δ => ap_law_one y y0 yv δ
    rw [List.map_cons, loop_step (δ1 := [a0, a1, a2, a3, a4, a5, some (.str y), a7, a8, a9]) rfl (δ2 := [a0, a1, a2, a3, a4, a5, some (.str y), a7, a8, a9]) ?_]
    · exact hb
    · unfold bwords
      simp only [ev_seq, at_nx, at_rt, toS_ok, bind_ok, ev_if, ev_set, ev_ret, ev_drop, ev_var, ev_move, ev_c, ev_nil, ev_cons, ev_tup, ev_lst, ev_B, asBl_bl, ev_and, ev_or, ev_not, ev_ifx, ev_andV, ev_orV, ev_notV, ev_op1n, ev_op1x, ev_op2nn, ev_op2nx, ev_op2xn, ev_op2xx, fin_val, fin_new, fin_ite, asStr_str, ev_m0, ev_m1n, ev_m1x, asInt_int, part_none, part_n, part_x, ev_sln, ev_slx, ev_chain, rd_0, st_0, rd_1, st_1, rd_2, st_2, rd_3, st_3, rd_4, st_4, rd_5, st_5, rd_6, st_6, rd_7, st_7, rd_8, st_8, rd_9, st_9, rd_10, st_10, rd_11, st_11, D.frz, D.frzs, Kd.frz, Md.sh', Nk.kd, List.map_cons, List.map_nil, List.replicate_zero, List.replicate_succ, List.cons_append, List.nil_append, List.length_cons, List.length_nil, Nat.reduceAdd, Nat.reduceSub, Nat.reduceLT, if_true, if_false, ite_true, ite_false, reduceIte, Bool.not_true, Bool.not_false, Bool.false_eq_true, eq_self, cl__law_one, h1]
end
theorem own_of (n : Int) : ∃ o : Str, fIx [.con (.lst .sh) noNames, .int (n % 7)] = .val (.str o) ∧ o.length ≤ 4 ∧ valid (tl o) := by
  have h0 : 0 ≤ n % 7 := Int.emod_nonneg _ (by decide)
  have h1 : n % 7 < 7 := Int.emod_lt_of_pos _ (by decide)
  have h : n % 7 = 0 ∨ n % 7 = 1 ∨ n % 7 = 2 ∨ n % 7 = 3 ∨ n % 7 = 4 ∨ n % 7 = 5 ∨ n % 7 = 6 := by omega
  rcases h with h | h | h | h | h | h | h <;> rw [h] <;> exact ⟨_, rfl, by decide +kernel, valid_dec (by decide +kernel)⟩
def odds : List D := [.non, .bl true, .int 7, .con (.lst .sh) [], .con (.lst .sh) [.str "1"], .con (.dic .sh []) [], .con .tup [.str "a"], .int (-2)]
structure Odd (c : Int) (o : D) (b : Bool) : Prop where
  at_ : fIx [.con (.lst .sh) odds, .int (c % 8)] = .val o
  fz : o.frz = o
  num : ∀ δ, app m_number_of [o] δ = .ok .non δ
  wds : ∀ δ, app m_words_of [o] δ = .ok .non δ
  nam : ∀ δ, app m_is_name [o] δ = .ok (.bl false) δ
  whl : ∀ δ, app m_is_whole [o] δ = .ok (.bl b) δ
  am1 : ∀ δ, app m_is_among [o, .int (-2), .int 7] δ = .ok (.bl b) δ
  am2 : ∀ δ, app m_is_among [o, .int (-1), .int 6] δ = .ok (.bl false) δ
  due : fIn false [.int (c % 8), .con .tup [.int 2, .int 7]] = .val (.bl b)
theorem nums_ret {o : D} (h : fIsi .str [o] = .val (.bl false)) (hf : o.frz = o) (δ : DN.Env) : app m_number_of [o] δ = .ok .non δ := by
  refine app_of (ret_rt rfl (δ := [some o, none]) ?_)
  show b_number_of [some o, none] = _
  unfold b_number_of
  simp only [ev_seq, at_nx, at_rt, toS_ok, bind_ok, ev_if, ev_set, ev_ret, ev_drop, ev_var, ev_move, ev_c, ev_nil, ev_cons, ev_tup, ev_lst, ev_B, asBl_bl, ev_and, ev_or, ev_not, ev_ifx, ev_andV, ev_orV, ev_notV, ev_op1n, ev_op1x, ev_op2nn, ev_op2nx, ev_op2xn, ev_op2xx, fin_val, fin_new, fin_ite, asStr_str, ev_m0, ev_m1n, ev_m1x, asInt_int, part_none, part_n, part_x, ev_sln, ev_slx, ev_chain, rd_0, st_0, rd_1, st_1, rd_2, st_2, rd_3, st_3, rd_4, st_4, rd_5, st_5, rd_6, st_6, rd_7, st_7, rd_8, st_8, rd_9, st_9, rd_10, st_10, rd_11, st_11, D.frz, D.frzs, Kd.frz, Md.sh', Nk.kd, List.map_cons, List.map_nil, List.replicate_zero, List.replicate_succ, List.cons_append, List.nil_append, List.length_cons, List.length_nil, Nat.reduceAdd, Nat.reduceSub, Nat.reduceLT, if_true, if_false, ite_true, ite_false, reduceIte, Bool.not_true, Bool.not_false, Bool.false_eq_true, eq_self, h]
theorem wds_ret {o : D} (h : fIsi .str [o] = .val (.bl false)) (hf : o.frz = o) (δ : DN.Env) : app m_words_of [o] δ = .ok .non δ := by
  refine app_of (ret_rt rfl (δ := [some o, none]) ?_)
  show b_words_of [some o, none] = _
  unfold b_words_of
  simp only [ev_seq, at_nx, at_rt, toS_ok, bind_ok, ev_if, ev_set, ev_ret, ev_drop, ev_var, ev_move, ev_c, ev_nil, ev_cons, ev_tup, ev_lst, ev_B, asBl_bl, ev_and, ev_or, ev_not, ev_ifx, ev_andV, ev_orV, ev_notV, ev_op1n, ev_op1x, ev_op2nn, ev_op2nx, ev_op2xn, ev_op2xx, fin_val, fin_new, fin_ite, asStr_str, ev_m0, ev_m1n, ev_m1x, asInt_int, part_none, part_n, part_x, ev_sln, ev_slx, ev_chain, rd_0, st_0, rd_1, st_1, rd_2, st_2, rd_3, st_3, rd_4, st_4, rd_5, st_5, rd_6, st_6, rd_7, st_7, rd_8, st_8, rd_9, st_9, rd_10, st_10, rd_11, st_11, D.frz, D.frzs, Kd.frz, Md.sh', Nk.kd, List.map_cons, List.map_nil, List.replicate_zero, List.replicate_succ, List.cons_append, List.nil_append, List.length_cons, List.length_nil, Nat.reduceAdd, Nat.reduceSub, Nat.reduceLT, if_true, if_false, ite_true, ite_false, reduceIte, Bool.not_true, Bool.not_false, Bool.false_eq_true, eq_self, h]
theorem nam_ret {o : D} (h : fIsi .str [o] = .val (.bl false)) (hf : o.frz = o) (δ : DN.Env) : app m_is_name [o] δ = .ok (.bl false) δ := by
  refine app_of (ret_rt rfl (δ := [some o]) ?_)
  show b_is_name [some o] = _
  unfold b_is_name
  simp only [ev_seq, at_nx, at_rt, toS_ok, bind_ok, ev_if, ev_set, ev_ret, ev_drop, ev_var, ev_move, ev_c, ev_nil, ev_cons, ev_tup, ev_lst, ev_B, asBl_bl, ev_and, ev_or, ev_not, ev_ifx, ev_andV, ev_orV, ev_notV, ev_op1n, ev_op1x, ev_op2nn, ev_op2nx, ev_op2xn, ev_op2xx, fin_val, fin_new, fin_ite, asStr_str, ev_m0, ev_m1n, ev_m1x, asInt_int, part_none, part_n, part_x, ev_sln, ev_slx, ev_chain, rd_0, st_0, rd_1, st_1, rd_2, st_2, rd_3, st_3, rd_4, st_4, rd_5, st_5, rd_6, st_6, rd_7, st_7, rd_8, st_8, rd_9, st_9, rd_10, st_10, rd_11, st_11, D.frz, D.frzs, Kd.frz, Md.sh', Nk.kd, List.map_cons, List.map_nil, List.replicate_zero, List.replicate_succ, List.cons_append, List.nil_append, List.length_cons, List.length_nil, Nat.reduceAdd, Nat.reduceSub, Nat.reduceLT, if_true, if_false, ite_true, ite_false, reduceIte, Bool.not_true, Bool.not_false, Bool.false_eq_true, eq_self, h]
theorem whl_ret {o : D} {b b2 : Bool} (h : fIsi .int [o] = .val (.bl b)) (h2 : fIsi .bool [o] = .val (.bl b2)) (hf : o.frz = o) (δ : DN.Env) : app m_is_whole [o] δ = .ok (.bl (b && !b2)) δ := by
  refine app_of (ret_rt rfl (δ := [some o]) ?_)
  show b_is_whole [some o] = _
  unfold b_is_whole
  simp only [ev_seq, at_nx, at_rt, toS_ok, bind_ok, ev_if, ev_set, ev_ret, ev_drop, ev_var, ev_move, ev_c, ev_nil, ev_cons, ev_tup, ev_lst, ev_B, asBl_bl, ev_and, ev_or, ev_not, ev_ifx, ev_andV, ev_orV, ev_notV, ev_op1n, ev_op1x, ev_op2nn, ev_op2nx, ev_op2xn, ev_op2xx, fin_val, fin_new, fin_ite, asStr_str, ev_m0, ev_m1n, ev_m1x, asInt_int, part_none, part_n, part_x, ev_sln, ev_slx, ev_chain, rd_0, st_0, rd_1, st_1, rd_2, st_2, rd_3, st_3, rd_4, st_4, rd_5, st_5, rd_6, st_6, rd_7, st_7, rd_8, st_8, rd_9, st_9, rd_10, st_10, rd_11, st_11, D.frz, D.frzs, Kd.frz, Md.sh', Nk.kd, List.map_cons, List.map_nil, List.replicate_zero, List.replicate_succ, List.cons_append, List.nil_append, List.length_cons, List.length_nil, Nat.reduceAdd, Nat.reduceSub, Nat.reduceLT, if_true, if_false, ite_true, ite_false, reduceIte, Bool.not_true, Bool.not_false, Bool.false_eq_true, eq_self, h, h2]
  cases b with
  | true => simp only [ev_seq, at_nx, at_rt, toS_ok, bind_ok, ev_if, ev_set, ev_ret, ev_drop, ev_var, ev_move, ev_c, ev_nil, ev_cons, ev_tup, ev_lst, ev_B, asBl_bl, ev_and, ev_or, ev_not, ev_ifx, ev_andV, ev_orV, ev_notV, ev_op1n, ev_op1x, ev_op2nn, ev_op2nx, ev_op2xn, ev_op2xx, fin_val, fin_new, fin_ite, asStr_str, ev_m0, ev_m1n, ev_m1x, asInt_int, part_none, part_n, part_x, ev_sln, ev_slx, ev_chain, rd_0, st_0, rd_1, st_1, rd_2, st_2, rd_3, st_3, rd_4, st_4, rd_5, st_5, rd_6, st_6, rd_7, st_7, rd_8, st_8, rd_9, st_9, rd_10, st_10, rd_11, st_11, D.frz, D.frzs, Kd.frz, Md.sh', Nk.kd, List.map_cons, List.map_nil, List.replicate_zero, List.replicate_succ, List.cons_append, List.nil_append, List.length_cons, List.length_nil, Nat.reduceAdd, Nat.reduceSub, Nat.reduceLT, if_true, if_false, ite_true, ite_false, reduceIte, Bool.not_true, Bool.not_false, Bool.false_eq_true, eq_self, h2, Bool.true_and]
  | false => simp only [ev_seq, at_nx, at_rt, toS_ok, bind_ok, ev_if, ev_set, ev_ret, ev_drop, ev_var, ev_move, ev_c, ev_nil, ev_cons, ev_tup, ev_lst, ev_B, asBl_bl, ev_and, ev_or, ev_not, ev_ifx, ev_andV, ev_orV, ev_notV, ev_op1n, ev_op1x, ev_op2nn, ev_op2nx, ev_op2xn, ev_op2xx, fin_val, fin_new, fin_ite, asStr_str, ev_m0, ev_m1n, ev_m1x, asInt_int, part_none, part_n, part_x, ev_sln, ev_slx, ev_chain, rd_0, st_0, rd_1, st_1, rd_2, st_2, rd_3, st_3, rd_4, st_4, rd_5, st_5, rd_6, st_6, rd_7, st_7, rd_8, st_8, rd_9, st_9, rd_10, st_10, rd_11, st_11, D.frz, D.frzs, Kd.frz, Md.sh', Nk.kd, List.map_cons, List.map_nil, List.replicate_zero, List.replicate_succ, List.cons_append, List.nil_append, List.length_cons, List.length_nil, Nat.reduceAdd, Nat.reduceSub, Nat.reduceLT, if_true, if_false, ite_true, ite_false, reduceIte, Bool.not_true, Bool.not_false, Bool.false_eq_true, eq_self, Bool.false_and]
theorem am_ret {o : D} (h : ∀ δ, app m_is_whole [o] δ = .ok (.bl false) δ) (hf : o.frz = o) (x y : Int) (δ : DN.Env) : app m_is_among [o, .int x, .int y] δ = .ok (.bl false) δ := by
  refine app_of (ret_rt rfl (δ := [some o, some (.int x), some (.int y)]) ?_)
  show b_is_among [some o, some (.int x), some (.int y)] = _
  unfold b_is_among
  simp only [ev_seq, at_nx, at_rt, toS_ok, bind_ok, ev_if, ev_set, ev_ret, ev_drop, ev_var, ev_move, ev_c, ev_nil, ev_cons, ev_tup, ev_lst, ev_B, asBl_bl, ev_and, ev_or, ev_not, ev_ifx, ev_andV, ev_orV, ev_notV, ev_op1n, ev_op1x, ev_op2nn, ev_op2nx, ev_op2xn, ev_op2xx, fin_val, fin_new, fin_ite, asStr_str, ev_m0, ev_m1n, ev_m1x, asInt_int, part_none, part_n, part_x, ev_sln, ev_slx, ev_chain, rd_0, st_0, rd_1, st_1, rd_2, st_2, rd_3, st_3, rd_4, st_4, rd_5, st_5, rd_6, st_6, rd_7, st_7, rd_8, st_8, rd_9, st_9, rd_10, st_10, rd_11, st_11, D.frz, D.frzs, Kd.frz, Md.sh', Nk.kd, List.map_cons, List.map_nil, List.replicate_zero, List.replicate_succ, List.cons_append, List.nil_append, List.length_cons, List.length_nil, Nat.reduceAdd, Nat.reduceSub, Nat.reduceLT, if_true, if_false, ite_true, ite_false, reduceIte, Bool.not_true, Bool.not_false, Bool.false_eq_true, eq_self, cl_is_whole, hf, h]
theorem odd_of (c : Int) : ∃ o b, Odd c o b := by
  have h0 : 0 ≤ c % 8 := Int.emod_nonneg _ (by decide)
  have h1 : c % 8 < 8 := Int.emod_lt_of_pos _ (by decide)
  have h : c % 8 = 0 ∨ c % 8 = 1 ∨ c % 8 = 2 ∨ c % 8 = 3 ∨ c % 8 = 4 ∨ c % 8 = 5 ∨ c % 8 = 6 ∨ c % 8 = 7 := by omega
  have key : ∀ {o : D} {b2 : Bool} {b1 : Bool}, fIx [.con (.lst .sh) odds, .int (c % 8)] = .val o → o.frz = o → fIsi .str [o] = .val (.bl false) → fIsi .int [o] = .val (.bl b1) → fIsi .bool [o] = .val (.bl b2) → (b1 && !b2) = false →
      fIn false [.int (c % 8), .con .tup [.int 2, .int 7]] = .val (.bl false) → ∃ o b, Odd c o b := fun {o b2 b1} q1 q2 q3 q4 q5 q6 q7 => by
    have w : ∀ δ, app m_is_whole [o] δ = .ok (.bl false) δ := fun δ => by
      rw [whl_ret q4 q5 q2, q6]
    exact ⟨o, false, ⟨q1, q2, nums_ret q3 q2, wds_ret q3 q2, nam_ret q3 q2, w, am_ret w q2 _ _, am_ret w q2 _ _, q7⟩⟩
  rcases h with h | h | h | h | h | h | h | h
  · exact key (by rw [h]; rfl) rfl rfl rfl rfl rfl (by rw [h]; rfl)
  · exact key (by rw [h]; rfl) rfl rfl rfl rfl rfl (by rw [h]; rfl)
  · exact ⟨.int 7, true, ⟨by rw [h]; rfl, rfl, nums_ret rfl rfl, wds_ret rfl rfl, nam_ret rfl rfl, ap_whole_i 7, fun δ => ap_among 7 (-2) 7 δ, fun δ => ap_among 7 (-1) 6 δ, by rw [h]; rfl⟩⟩
  · exact key (by rw [h]; rfl) rfl rfl rfl rfl rfl (by rw [h]; rfl)
  · exact key (by rw [h]; rfl) rfl rfl rfl rfl rfl (by rw [h]; rfl)
  · exact key (by rw [h]; rfl) rfl rfl rfl rfl rfl (by rw [h]; rfl)
  · exact key (by rw [h]; rfl) rfl rfl rfl rfl rfl (by rw [h]; rfl)
  · exact ⟨.int (-2), true, ⟨by rw [h]; rfl, rfl, nums_ret rfl rfl, wds_ret rfl rfl, nam_ret rfl rfl, ap_whole_i (-2), fun δ => ap_among (-2) (-2) 7 δ, fun δ => ap_among (-2) (-1) 6 δ, by rw [h]; rfl⟩⟩
end K01

namespace K01
open PySem PySem.Spec L2 DN TL
def bturn : MS := (sSeq (sSet 3 (mCall m__law_mixed [.val (mVar 2), .val (mC (.int 1))]))
  (sSeq (sFor (.nm 4) (mSeq (mTup (mCons (mC (.str "0123456789")) (mCons (mC (.str "abcdefghijklmnopqrstuvwxyz")) (mCons (mC (.str "01a")) (mCons (mC (.str "0 9+-.'")) (mCons (mC (.str "Ab{}`z\n")) mNil))))))) bsigns)
  (sSeq (sSet 5 (mOp fIx [(.ex (mLst (mCons (mC (.str "any")) (mCons (mC (.str "none")) (mCons (mC (.str "at")) (mCons (mC (.str "move")) (mCons (mC (.str "box")) (mCons (mC (.str "lend")) (mCons (mC (.str "mend")) mNil))))))))), (.ex (mOp fMod [(.nm 3), (.ex (mC (.int 7)))]))]))
  (sSeq (sFor (.nm 6) (mSeq (mLst (mCons (mOp fStr [(.nm 3)]) (mCons (mOp fAdd [(.ex (mC (.str "-"))), (.ex (mOp fStr [(.ex (mOp fMod [(.nm 3), (.ex (mC (.int 50)))]))]))]) (mCons (mVar 5) (mCons (mOp fAdd [(.nm 5), (.ex (mC (.str "s")))]) (mCons (mOp fAdd [(.ex (mC (.str "0"))), (.ex (mOp fStr [(.ex (mOp fMod [(.nm 3), (.ex (mC (.int 100)))]))]))]) (mCons (mOp fStr [(.ex (mOp fMul [(.nm 3), (.ex (mC (.int 9)))]))]) mNil)))))))) bwords)
  (sSeq (sSet 1 (mOp fAdd [(.nm 1), (.ex (mLst (mCons (mOp fAdd [(.ex (mC (.str "a"))), (.ex (mCall m__law_word [.val (mVar 3), .val (mC (.str "b9+\n"))]))]) (mCons (mOp fStr [(.ex (mOp fMod [(.nm 3), (.ex (mC (.int 99)))]))]) mNil))))]))
  (sSeq (sSet 7 (mOp fIx [(.ex (mLst (mCons (mC .non) (mCons (mC (.bl true)) (mCons (mC (.int 7)) (mCons (mLst mNil) (mCons (mLst (mCons (mC (.str "1")) mNil)) (mCons mDic (mCons (mTup (mCons (mC (.str "a")) mNil)) (mCons (mOp fNeg [(.ex (mC (.int 2)))]) mNil)))))))))), (.ex (mOp fMod [(.nm 2), (.ex (mC (.int 8)))]))]))
  (sSeq (sIf (mOr (mB (mOp (fIs true) [(.ex (mCall m_number_of [.val (mVar 7)])), (.ex (mC .non))])) (mOr (mB (mOp (fIs true) [(.ex (mCall m_words_of [.val (mVar 7)])), (.ex (mC .non))])) (mB (mOp (fIs true) [(.ex (mCall m_is_name [.val (mVar 7)])), (.ex (mC (.bl false)))])))) (sRet (mC (.bl false))) (fun δ => .nx δ))
  (sSeq (sSet 8 (mOp (fIn false) [(.ex (mOp fMod [(.nm 2), (.ex (mC (.int 8)))])), (.ex (mTup (mCons (mC (.int 2)) (mCons (mC (.int 7)) mNil))))]))
  (sSeq (sIf (mOr (mB (mOp fNe [(.ex (mCall m_is_whole [.val (mVar 7)])), (.nm 8)])) (mOr (mB (mOp fNe [(.ex (mCall m_is_among [.val (mVar 7), .val (mOp fNeg [(.ex (mC (.int 2)))]), .val (mC (.int 7))])), (.nm 8)])) (mB (mOp (fIs true) [(.ex (mCall m_is_among [.val (mVar 7), .val (mOp fNeg [(.ex (mC (.int 1)))]), .val (mC (.int 6))])), (.ex (mC (.bl false)))])))) (sRet (mC (.bl false))) (fun δ => .nx δ))
  (sSeq (sSet 9 (mOp fMod [(.nm 2), (.ex (mOp fPow [(.ex (mC (.int 10))), (.ex (mC (.int 60)))]))]))
  (sIf (mOr (mB (mOp (fIs true) [(.ex (mCall m_is_among [.val (mVar 9), .val (mOp fSub [(.nm 9), (.ex (mC (.int 1)))]), .val (mVar 9)])), (.ex (mC (.bl true)))])) (mB (mOp (fIs true) [(.ex (mCall m_is_among [.val (mVar 9), .val (mOp fAdd [(.nm 9), (.ex (mC (.int 1)))]), .val (mOp fAdd [(.nm 9), (.ex (mC (.int 2)))])])), (.ex (mC (.bl false)))]))) (sRet (mC (.bl false))) (fun δ => .nx δ))))))))))))
theorem b_law_eq : b_law = (sSeq (sSet 1 (mLst mNil))
  (sSeq (sFor (.nm 2) (mSeq (mOp fAdd [(.ex (mSl (.nm 0) none (some (.ex (mC (.int 63)))))), (.ex (mLst (mCons (mOp fSum [(.nm 0)]) mNil)))])) bturn)
  (sRet (mAndV (mOp (fIs false) [(.ex (mCall m_words_of [.val (mC (.str ""))])), (.ex (mC .non))]) (mCall m__law_row [.val (mVar 1), .val (mCall m__law_mixed [.val (mOp fSum [(.nm 0)]), .val (mC (.int 2))])]))))) := rfl
theorem seq_nx {s1 s2 : MS} {δ δ1 : DN.Env} {r : RS} (h : s1 δ = .nx δ1) (h2 : s2 δ1 = r) : sSeq s1 s2 δ = r := by
  rw [ev_seq, h]
  exact h2
def signL : List Str := ["0123456789", "abcdefghijklmnopqrstuvwxyz", "01a", "0 9+-.'", "Ab{}`z\n"]
theorem signL_ok : ∀ y ∈ signL, 0 < y.length ∧ y.length ≤ 1000 ∧ valid (tl y) := by
  intro y hy
  have h : ∀ y ∈ signL, decide (0 < y.length ∧ y.length ≤ 1000) && (tl y).all (fun c => decide (c < 0x110000)) = true := by decide +kernel
  have := h y hy
  rw [Bool.and_eq_true] at this
  have h1 := of_decide_eq_true this.1
  exact ⟨h1.1, h1.2, valid_dec (of_decide_eq_true this.2)⟩
theorem cat_ok {ws : List Str} (w1 w2 : Str) (hl : ws.length ≤ 200) : fAdd [.con (.lst .own) (ws.map .str), .con (.lst .sh) [.str w1, .str w2]] = .new .lst (ws.map .str ++ [.str w1, .str w2]) := by
  show (if (D.pures (ws.map D.str) && D.pures [.str w1, .str w2] && decide ((ws.map D.str).length + [D.str w1, D.str w2].length ≤ sizeLine)) = true then Res.new .lst (ws.map D.str ++ [.str w1, .str w2]) else .bad) = _
  rw [pures_strs, if_pos]
  have := line_big
  rw [decide_eq_true (show (ws.map D.str).length + [D.str w1, D.str w2].length ≤ sizeLine by
    rw [List.length_map]
    show ws.length + 2 ≤ _
    omega)]
  rfl
theorem pow_ok : ∃ B : Int, fPow [.int 10, .int 60] = .val (.int B) ∧ 0 < B := ⟨_, fI2_v (by decide +kernel), by decide +kernel⟩
theorem turn {ws : List Str} (h : ∀ w ∈ ws, Word w) (hl : ws.length ≤ 200) (a0 : Option D) (c : Int) (a3 a4 a5 a6 a7 a8 a9 : Option D) :
    ∃ (w1 w2 : Str) (b3 b4 b5 b6 b7 b8 b9 : Option D), Word w1 ∧ Word w2 ∧ bturn [a0, some (.con (.lst .own) (ws.map .str)), some (.int c), a3, a4, a5, a6, a7, a8, a9] = .nx [a0, some (.con (.lst .own) (ws.map .str ++ [.str w1, .str w2])), some (.int c), b3, b4, b5, b6, b7, b8, b9] := by
  have hm := fun δ => ap_mixed c 1 (by decide) (by decide) δ
  have n0 := mixed_ge c 1
  have n1 := mixed_lt c 1
  generalize mixed c 1 = n at hm n0 n1
  obtain ⟨b4, b6, hb⟩ := signs_loop a0 (some (.con (.lst .own) (ws.map .str))) (some (.int c)) a5 a7 a8 a9 n n0 signL signL_ok a4 a6
  obtain ⟨o, ho1, ho2, ho3⟩ := own_of n
  unfold noNames at ho1
  have m50a : 0 ≤ n % 50 := Int.emod_nonneg _ (by decide)
  have m50b : n % 50 < 50 := Int.emod_lt_of_pos _ (by decide)
  have m100a : 0 ≤ n % 100 := Int.emod_nonneg _ (by decide)
  have m100b : n % 100 < 100 := Int.emod_lt_of_pos _ (by decide)
  have m99a : 0 ≤ n % 99 := Int.emod_nonneg _ (by decide)
  have m99b : n % 99 < 99 := Int.emod_lt_of_pos _ (by decide)
  have p7 : (0 : Int) < 7 := by decide
  have p8 : (0 : Int) < 8 := by decide
  have p50 : (0 : Int) < 50 := by decide
  have p99 : (0 : Int) < 99 := by decide
  have p100 : (0 : Int) < 100 := by decide
  have mul9 : fMul [.int n, .int 9] = .val (.int (n * 9)) := fMul_v (mulOk_of (a := 32) (b := 32) (by omega) (by decide) (by decide) (by decide) (by decide))
  obtain ⟨z1, hz1, lz1, vz1, _, _⟩ := num_text n n0 (by omega)
  obtain ⟨z2, hz2, lz2, vz2, _, _⟩ := num_text (n % 50) m50a (by omega)
  obtain ⟨z3, hz3, lz3, vz3, _, _⟩ := num_text (n % 100) m100a (by omega)
  obtain ⟨z4, hz4, lz4, vz4, _, _⟩ := num_text (n * 9) (by omega) (by omega)
  obtain ⟨z5, hz5, lz5, vz5, fz5, nz5⟩ := num_text (n % 99) m99a (by omega)
  have lm : ("-" : Str).length = 1 := by decide +kernel
  have ls : ("s" : Str).length = 1 := by decide +kernel
  have lz : ("0" : Str).length = 1 := by decide +kernel
  have la : ("a" : Str).length = 1 := by decide +kernel
  have vs : valid (tl "s") := valid_dec (by decide +kernel)
  have vz : valid (tl "0") := valid_dec (by decide +kernel)
  have va : valid (tl "a") := valid_dec (by decide +kernel)
  have c1 : fAdd [.str "-", .str z2] = .val (.str ("-" ++ z2)) := fAdd_s (by omega)
  have c2 : fAdd [.str o, .str "s"] = .val (.str (o ++ "s")) := fAdd_s (by omega)
  have c3 : fAdd [.str "0", .str z3] = .val (.str ("0" ++ z3)) := fAdd_s (by omega)
  obtain ⟨d6, hd⟩ := words_loop a0 (some (.con (.lst .own) (ws.map .str))) (some (.int c)) (some (.int n)) b4 (some (.str o)) a7 a8 a9 [z1, "-" ++ z2, o, o ++ "s", "0" ++ z3, z4] (fun y hy => by
    simp only [List.mem_cons, List.not_mem_nil, or_false] at hy
    rcases hy with rfl | rfl | rfl | rfl | rfl | rfl
    · exact ⟨by omega, vz1⟩
    · exact ⟨by rw [len_app]; omega, valid_app valid_minus vz2⟩
    · exact ⟨by omega, ho3⟩
    · exact ⟨by rw [len_app]; omega, valid_app ho3 vs⟩
    · exact ⟨by rw [len_app]; omega, valid_app vz vz3⟩
    · exact ⟨by omega, vz4⟩) b6
  have hyl : 0 < ("b9+\n" : Str).length := by decide +kernel
  have hw := fun δ => ap_word n "b9+\n" n0 hyl (by decide +kernel) δ
  have wl := drawn_len n "b9+\n"
  have wm : ∀ c ∈ tl (Txt.join "" (drawn n "b9+\n")), c ∈ tl "b9+\n" := fun c hc => drawn_mem hyl hc
  generalize Txt.join "" (drawn n "b9+\n") = w at hw wl wm
  have c4 : fAdd [.str "a", .str w] = .val (.str ("a" ++ w)) := fAdd_s (by omega)
  have W1 : Word ("a" ++ w) := by
    refine ⟨?_, ?_, by rw [len_app]; omega, valid_app va fun c hc => of_decide_eq_true (List.all_eq_true.mp (show (tl "b9+\n").all (fun c => decide (c < 0x110000)) = true by decide +kernel) c (wm c hc))⟩
    · intro e
      have := congrArg Str.length e
      rw [len_app, la, show ("" : Str).length = 0 by decide +kernel] at this
      omega
    · rw [tl_app]
      intro hc
      rcases List.mem_append.mp hc with q | q
      · exact absurd q (by decide +kernel)
      · exact absurd (wm _ q) (by decide +kernel)
  have W2 : Word z5 := ⟨nz5, fz5, by omega, vz5⟩
  have hcat := cat_ok ("a" ++ w) z5 hl
  obtain ⟨od, bo, O⟩ := odd_of c
  have hat := O.at_
  unfold odds at hat
  obtain ⟨B, hB1, hB2⟩ := pow_ok
  have neg1 : fNeg [.int 1] = .val (.int (-1)) := rfl
  have neg2 : fNeg [.int 2] = .val (.int (-2)) := rfl
  have is1 : fIs true [.non, .non] = .val (.bl false) := rfl
  have is2 : fIs true [.bl false, .bl false] = .val (.bl false) := rfl
  have is3 : fIs true [.bl true, .bl true] = .val (.bl false) := rfl
  have ne1 : fNe [.bl bo, .bl bo] = .val (.bl false) := by cases bo <;> rfl
  have k7 : 7 ≤ sizeLine := by decide
  have k6 : 6 ≤ sizeLine := by decide
  have k8 : 8 ≤ sizeLine := by decide
  have k2 : 2 ≤ sizeLine := by decide
  have k1 : 1 ≤ sizeLine := by decide
  have k0 : 0 ≤ sizeLine := Nat.zero_le _
  have hs1 : fSub [.int (c % B), .int 1] = .val (.int (c % B - 1)) := rfl
  have hs2 : fAdd [.int (c % B), .int 1] = .val (.int (c % B + 1)) := rfl
  have hs3 : fAdd [.int (c % B), .int 2] = .val (.int (c % B + 2)) := rfl
  have r1 : ∀ δ, app m_is_among [.int (c % B), .int (c % B - 1), .int (c % B)] δ = .ok (.bl true) δ := fun δ => by
    rw [ap_among, decide_eq_true (show c % B - 1 ≤ c % B by omega), decide_eq_true (Int.le_refl _)]
    rfl
  have r2 : ∀ δ, app m_is_among [.int (c % B), .int (c % B + 1), .int (c % B + 2)] δ = .ok (.bl false) δ := fun δ => by
    rw [ap_among, decide_eq_false (show ¬ c % B + 1 ≤ c % B by omega)]
    rfl
  have hm1 : ∀ δ, mSeq (mTup (mCons (mC (.str "0123456789")) (mCons (mC (.str "abcdefghijklmnopqrstuvwxyz")) (mCons (mC (.str "01a")) (mCons (mC (.str "0 9+-.'")) (mCons (mC (.str "Ab{}`z\n")) mNil)))))) δ = .ok (signL.map .str) δ := fun δ => rfl
  refine ⟨"a" ++ w, z5, some (.int n), b4, some (.str o), d6, some od, some (.bl bo), some (.int (c % B)), W1, W2, ?_⟩
  unfold bturn
  refine seq_nx (δ1 := [a0, some (.con (.lst .own) (ws.map .str)), some (.int c), some (.int n), a4, a5, a6, a7, a8, a9]) (by simp only [ev_seq, at_nx, at_rt, toS_ok, bind_ok, ev_if, ev_set, ev_ret, ev_drop, ev_var, ev_move, ev_c, ev_nil, ev_cons, ev_tup, ev_lst, ev_B, asBl_bl, ev_and, ev_or, ev_not, ev_ifx, ev_andV, ev_orV, ev_notV, ev_op1n, ev_op1x, ev_op2nn, ev_op2nx, ev_op2xn, ev_op2xx, fin_val, fin_new, fin_ite, asStr_str, ev_m0, ev_m1n, ev_m1x, asInt_int, part_none, part_n, part_x, ev_sln, ev_slx, ev_chain, rd_0, st_0, rd_1, st_1, rd_2, st_2, rd_3, st_3, rd_4, st_4, rd_5, st_5, rd_6, st_6, rd_7, st_7, rd_8, st_8, rd_9, st_9, rd_10, st_10, rd_11, st_11, D.frz, D.frzs, Kd.frz, Md.sh', Nk.kd, List.map_cons, List.map_nil, List.replicate_zero, List.replicate_succ, List.cons_append, List.nil_append, List.length_cons, List.length_nil, Nat.reduceAdd, Nat.reduceSub, Nat.reduceLT, if_true, if_false, ite_true, ite_false, reduceIte, Bool.not_true, Bool.not_false, Bool.false_eq_true, eq_self, cl__law_mixed, hm]) ?_
  refine seq_nx (δ1 := [a0, some (.con (.lst .own) (ws.map .str)), some (.int c), some (.int n), b4, a5, b6, a7, a8, a9]) (by simp only [ev_seq, at_nx, at_rt, toS_ok, bind_ok, ev_if, ev_set, ev_ret, ev_drop, ev_var, ev_move, ev_c, ev_nil, ev_cons, ev_tup, ev_lst, ev_B, asBl_bl, ev_and, ev_or, ev_not, ev_ifx, ev_andV, ev_orV, ev_notV, ev_op1n, ev_op1x, ev_op2nn, ev_op2nx, ev_op2xn, ev_op2xx, fin_val, fin_new, fin_ite, asStr_str, ev_m0, ev_m1n, ev_m1x, asInt_int, part_none, part_n, part_x, ev_sln, ev_slx, ev_chain, rd_0, st_0, rd_1, st_1, rd_2, st_2, rd_3, st_3, rd_4, st_4, rd_5, st_5, rd_6, st_6, rd_7, st_7, rd_8, st_8, rd_9, st_9, rd_10, st_10, rd_11, st_11, D.frz, D.frzs, Kd.frz, Md.sh', Nk.kd, List.map_cons, List.map_nil, List.replicate_zero, List.replicate_succ, List.cons_append, List.nil_append, List.length_cons, List.length_nil, Nat.reduceAdd, Nat.reduceSub, Nat.reduceLT, if_true, if_false, ite_true, ite_false, reduceIte, Bool.not_true, Bool.not_false, Bool.false_eq_true, eq_self, ev_for, hm1, hb]) ?_
  refine seq_nx (δ1 := [a0, some (.con (.lst .own) (ws.map .str)), some (.int c), some (.int n), b4, some (.str o), b6, a7, a8, a9]) (by simp only [ev_seq, at_nx, at_rt, toS_ok, bind_ok, ev_if, ev_set, ev_ret, ev_drop, ev_var, ev_move, ev_c, ev_nil, ev_cons, ev_tup, ev_lst, ev_B, asBl_bl, ev_and, ev_or, ev_not, ev_ifx, ev_andV, ev_orV, ev_notV, ev_op1n, ev_op1x, ev_op2nn, ev_op2nx, ev_op2xn, ev_op2xx, fin_val, fin_new, fin_ite, asStr_str, ev_m0, ev_m1n, ev_m1x, asInt_int, part_none, part_n, part_x, ev_sln, ev_slx, ev_chain, rd_0, st_0, rd_1, st_1, rd_2, st_2, rd_3, st_3, rd_4, st_4, rd_5, st_5, rd_6, st_6, rd_7, st_7, rd_8, st_8, rd_9, st_9, rd_10, st_10, rd_11, st_11, D.frz, D.frzs, Kd.frz, Md.sh', Nk.kd, List.map_cons, List.map_nil, List.replicate_zero, List.replicate_succ, List.cons_append, List.nil_append, List.length_cons, List.length_nil, Nat.reduceAdd, Nat.reduceSub, Nat.reduceLT, if_true, if_false, ite_true, ite_false, reduceIte, Bool.not_true, Bool.not_false, Bool.false_eq_true, eq_self, fMod_v p7, ho1, k7]) ?_
  refine seq_nx (δ1 := [a0, some (.con (.lst .own) (ws.map .str)), some (.int c), some (.int n), b4, some (.str o), d6, a7, a8, a9]) ?_ ?_
  · have hm2 : mSeq (mLst (mCons (mOp fStr [(.nm 3)]) (mCons (mOp fAdd [(.ex (mC (.str "-"))), (.ex (mOp fStr [(.ex (mOp fMod [(.nm 3), (.ex (mC (.int 50)))]))]))]) (mCons (mVar 5) (mCons (mOp fAdd [(.nm 5), (.ex (mC (.str "s")))]) (mCons (mOp fAdd [(.ex (mC (.str "0"))), (.ex (mOp fStr [(.ex (mOp fMod [(.nm 3), (.ex (mC (.int 100)))]))]))]) (mCons (mOp fStr [(.ex (mOp fMul [(.nm 3), (.ex (mC (.int 9)))]))]) mNil)))))))
        [a0, some (.con (.lst .own) (ws.map .str)), some (.int c), some (.int n), b4, some (.str o), b6, a7, a8, a9] = .ok ([z1, "-" ++ z2, o, o ++ "s", "0" ++ z3, z4].map .str) [a0, some (.con (.lst .own) (ws.map .str)), some (.int c), some (.int n), b4, some (.str o), b6, a7, a8, a9] := by
      unfold mSeq
      simp only [ev_seq, at_nx, at_rt, toS_ok, bind_ok, ev_if, ev_set, ev_ret, ev_drop, ev_var, ev_move, ev_c, ev_nil, ev_cons, ev_tup, ev_lst, ev_B, asBl_bl, ev_and, ev_or, ev_not, ev_ifx, ev_andV, ev_orV, ev_notV, ev_op1n, ev_op1x, ev_op2nn, ev_op2nx, ev_op2xn, ev_op2xx, fin_val, fin_new, fin_ite, asStr_str, ev_m0, ev_m1n, ev_m1x, asInt_int, part_none, part_n, part_x, ev_sln, ev_slx, ev_chain, rd_0, st_0, rd_1, st_1, rd_2, st_2, rd_3, st_3, rd_4, st_4, rd_5, st_5, rd_6, st_6, rd_7, st_7, rd_8, st_8, rd_9, st_9, rd_10, st_10, rd_11, st_11, D.frz, D.frzs, Kd.frz, Md.sh', Nk.kd, List.map_cons, List.map_nil, List.replicate_zero, List.replicate_succ, List.cons_append, List.nil_append, List.length_cons, List.length_nil, Nat.reduceAdd, Nat.reduceSub, Nat.reduceLT, if_true, if_false, ite_true, ite_false, reduceIte, Bool.not_true, Bool.not_false, Bool.false_eq_true, eq_self, hz1, hz2, hz3, hz4, fMod_v p50, fMod_v p100, mul9, c1, c2, c3, k6]
      rfl
    simp only [ev_seq, at_nx, at_rt, toS_ok, bind_ok, ev_if, ev_set, ev_ret, ev_drop, ev_var, ev_move, ev_c, ev_nil, ev_cons, ev_tup, ev_lst, ev_B, asBl_bl, ev_and, ev_or, ev_not, ev_ifx, ev_andV, ev_orV, ev_notV, ev_op1n, ev_op1x, ev_op2nn, ev_op2nx, ev_op2xn, ev_op2xx, fin_val, fin_new, fin_ite, asStr_str, ev_m0, ev_m1n, ev_m1x, asInt_int, part_none, part_n, part_x, ev_sln, ev_slx, ev_chain, rd_0, st_0, rd_1, st_1, rd_2, st_2, rd_3, st_3, rd_4, st_4, rd_5, st_5, rd_6, st_6, rd_7, st_7, rd_8, st_8, rd_9, st_9, rd_10, st_10, rd_11, st_11, D.frz, D.frzs, Kd.frz, Md.sh', Nk.kd, List.map_cons, List.map_nil, List.replicate_zero, List.replicate_succ, List.cons_append, List.nil_append, List.length_cons, List.length_nil, Nat.reduceAdd, Nat.reduceSub, Nat.reduceLT, if_true, if_false, ite_true, ite_false, reduceIte, Bool.not_true, Bool.not_false, Bool.false_eq_true, eq_self, ev_for, hm2]
    exact hd
  refine seq_nx (δ1 := [a0, some (.con (.lst .own) (ws.map .str ++ [.str ("a" ++ w), .str z5])), some (.int c), some (.int n), b4, some (.str o), d6, a7, a8, a9]) (by simp only [ev_seq, at_nx, at_rt, toS_ok, bind_ok, ev_if, ev_set, ev_ret, ev_drop, ev_var, ev_move, ev_c, ev_nil, ev_cons, ev_tup, ev_lst, ev_B, asBl_bl, ev_and, ev_or, ev_not, ev_ifx, ev_andV, ev_orV, ev_notV, ev_op1n, ev_op1x, ev_op2nn, ev_op2nx, ev_op2xn, ev_op2xx, fin_val, fin_new, fin_ite, asStr_str, ev_m0, ev_m1n, ev_m1x, asInt_int, part_none, part_n, part_x, ev_sln, ev_slx, ev_chain, rd_0, st_0, rd_1, st_1, rd_2, st_2, rd_3, st_3, rd_4, st_4, rd_5, st_5, rd_6, st_6, rd_7, st_7, rd_8, st_8, rd_9, st_9, rd_10, st_10, rd_11, st_11, D.frz, D.frzs, Kd.frz, Md.sh', Nk.kd, List.map_cons, List.map_nil, List.replicate_zero, List.replicate_succ, List.cons_append, List.nil_append, List.length_cons, List.length_nil, Nat.reduceAdd, Nat.reduceSub, Nat.reduceLT, if_true, if_false, ite_true, ite_false, reduceIte, Bool.not_true, Bool.not_false, Bool.false_eq_true, eq_self, cl__law_word, hw, c4, fMod_v p99, hz5, k2, hcat]) ?_
  refine seq_nx (δ1 := [a0, some (.con (.lst .own) (ws.map .str ++ [.str ("a" ++ w), .str z5])), some (.int c), some (.int n), b4, some (.str o), d6, some od, a8, a9]) (by simp only [ev_seq, at_nx, at_rt, toS_ok, bind_ok, ev_if, ev_set, ev_ret, ev_drop, ev_var, ev_move, ev_c, ev_nil, ev_cons, ev_tup, ev_lst, ev_B, asBl_bl, ev_and, ev_or, ev_not, ev_ifx, ev_andV, ev_orV, ev_notV, ev_op1n, ev_op1x, ev_op2nn, ev_op2nx, ev_op2xn, ev_op2xx, fin_val, fin_new, fin_ite, asStr_str, ev_m0, ev_m1n, ev_m1x, asInt_int, part_none, part_n, part_x, ev_sln, ev_slx, ev_chain, rd_0, st_0, rd_1, st_1, rd_2, st_2, rd_3, st_3, rd_4, st_4, rd_5, st_5, rd_6, st_6, rd_7, st_7, rd_8, st_8, rd_9, st_9, rd_10, st_10, rd_11, st_11, D.frz, D.frzs, Kd.frz, Md.sh', Nk.kd, List.map_cons, List.map_nil, List.replicate_zero, List.replicate_succ, List.cons_append, List.nil_append, List.length_cons, List.length_nil, Nat.reduceAdd, Nat.reduceSub, Nat.reduceLT, if_true, if_false, ite_true, ite_false, reduceIte, Bool.not_true, Bool.not_false, Bool.false_eq_true, eq_self, neg2, k0, k1, k8, fMod_v p8, mDic, hat]) ?_
  refine seq_nx (δ1 := [a0, some (.con (.lst .own) (ws.map .str ++ [.str ("a" ++ w), .str z5])), some (.int c), some (.int n), b4, some (.str o), d6, some od, a8, a9]) (by simp only [ev_seq, at_nx, at_rt, toS_ok, bind_ok, ev_if, ev_set, ev_ret, ev_drop, ev_var, ev_move, ev_c, ev_nil, ev_cons, ev_tup, ev_lst, ev_B, asBl_bl, ev_and, ev_or, ev_not, ev_ifx, ev_andV, ev_orV, ev_notV, ev_op1n, ev_op1x, ev_op2nn, ev_op2nx, ev_op2xn, ev_op2xx, fin_val, fin_new, fin_ite, asStr_str, ev_m0, ev_m1n, ev_m1x, asInt_int, part_none, part_n, part_x, ev_sln, ev_slx, ev_chain, rd_0, st_0, rd_1, st_1, rd_2, st_2, rd_3, st_3, rd_4, st_4, rd_5, st_5, rd_6, st_6, rd_7, st_7, rd_8, st_8, rd_9, st_9, rd_10, st_10, rd_11, st_11, D.frz, D.frzs, Kd.frz, Md.sh', Nk.kd, List.map_cons, List.map_nil, List.replicate_zero, List.replicate_succ, List.cons_append, List.nil_append, List.length_cons, List.length_nil, Nat.reduceAdd, Nat.reduceSub, Nat.reduceLT, if_true, if_false, ite_true, ite_false, reduceIte, Bool.not_true, Bool.not_false, Bool.false_eq_true, eq_self, cl_number_of, cl_words_of, cl_is_name, O.fz, O.num, O.wds, O.nam, is1, is2]) ?_
  refine seq_nx (δ1 := [a0, some (.con (.lst .own) (ws.map .str ++ [.str ("a" ++ w), .str z5])), some (.int c), some (.int n), b4, some (.str o), d6, some od, some (.bl bo), a9]) (by simp only [ev_seq, at_nx, at_rt, toS_ok, bind_ok, ev_if, ev_set, ev_ret, ev_drop, ev_var, ev_move, ev_c, ev_nil, ev_cons, ev_tup, ev_lst, ev_B, asBl_bl, ev_and, ev_or, ev_not, ev_ifx, ev_andV, ev_orV, ev_notV, ev_op1n, ev_op1x, ev_op2nn, ev_op2nx, ev_op2xn, ev_op2xx, fin_val, fin_new, fin_ite, asStr_str, ev_m0, ev_m1n, ev_m1x, asInt_int, part_none, part_n, part_x, ev_sln, ev_slx, ev_chain, rd_0, st_0, rd_1, st_1, rd_2, st_2, rd_3, st_3, rd_4, st_4, rd_5, st_5, rd_6, st_6, rd_7, st_7, rd_8, st_8, rd_9, st_9, rd_10, st_10, rd_11, st_11, D.frz, D.frzs, Kd.frz, Md.sh', Nk.kd, List.map_cons, List.map_nil, List.replicate_zero, List.replicate_succ, List.cons_append, List.nil_append, List.length_cons, List.length_nil, Nat.reduceAdd, Nat.reduceSub, Nat.reduceLT, if_true, if_false, ite_true, ite_false, reduceIte, Bool.not_true, Bool.not_false, Bool.false_eq_true, eq_self, fMod_v p8, k2, O.due]) ?_
  refine seq_nx (δ1 := [a0, some (.con (.lst .own) (ws.map .str ++ [.str ("a" ++ w), .str z5])), some (.int c), some (.int n), b4, some (.str o), d6, some od, some (.bl bo), a9]) (by simp only [ev_seq, at_nx, at_rt, toS_ok, bind_ok, ev_if, ev_set, ev_ret, ev_drop, ev_var, ev_move, ev_c, ev_nil, ev_cons, ev_tup, ev_lst, ev_B, asBl_bl, ev_and, ev_or, ev_not, ev_ifx, ev_andV, ev_orV, ev_notV, ev_op1n, ev_op1x, ev_op2nn, ev_op2nx, ev_op2xn, ev_op2xx, fin_val, fin_new, fin_ite, asStr_str, ev_m0, ev_m1n, ev_m1x, asInt_int, part_none, part_n, part_x, ev_sln, ev_slx, ev_chain, rd_0, st_0, rd_1, st_1, rd_2, st_2, rd_3, st_3, rd_4, st_4, rd_5, st_5, rd_6, st_6, rd_7, st_7, rd_8, st_8, rd_9, st_9, rd_10, st_10, rd_11, st_11, D.frz, D.frzs, Kd.frz, Md.sh', Nk.kd, List.map_cons, List.map_nil, List.replicate_zero, List.replicate_succ, List.cons_append, List.nil_append, List.length_cons, List.length_nil, Nat.reduceAdd, Nat.reduceSub, Nat.reduceLT, if_true, if_false, ite_true, ite_false, reduceIte, Bool.not_true, Bool.not_false, Bool.false_eq_true, eq_self, cl_is_whole, cl_is_among, O.fz, O.whl, O.am1, O.am2, neg1, neg2, ne1, is2]) ?_
  refine seq_nx (δ1 := [a0, some (.con (.lst .own) (ws.map .str ++ [.str ("a" ++ w), .str z5])), some (.int c), some (.int n), b4, some (.str o), d6, some od, some (.bl bo), some (.int (c % B))]) (by simp only [ev_seq, at_nx, at_rt, toS_ok, bind_ok, ev_if, ev_set, ev_ret, ev_drop, ev_var, ev_move, ev_c, ev_nil, ev_cons, ev_tup, ev_lst, ev_B, asBl_bl, ev_and, ev_or, ev_not, ev_ifx, ev_andV, ev_orV, ev_notV, ev_op1n, ev_op1x, ev_op2nn, ev_op2nx, ev_op2xn, ev_op2xx, fin_val, fin_new, fin_ite, asStr_str, ev_m0, ev_m1n, ev_m1x, asInt_int, part_none, part_n, part_x, ev_sln, ev_slx, ev_chain, rd_0, st_0, rd_1, st_1, rd_2, st_2, rd_3, st_3, rd_4, st_4, rd_5, st_5, rd_6, st_6, rd_7, st_7, rd_8, st_8, rd_9, st_9, rd_10, st_10, rd_11, st_11, D.frz, D.frzs, Kd.frz, Md.sh', Nk.kd, List.map_cons, List.map_nil, List.replicate_zero, List.replicate_succ, List.cons_append, List.nil_append, List.length_cons, List.length_nil, Nat.reduceAdd, Nat.reduceSub, Nat.reduceLT, if_true, if_false, ite_true, ite_false, reduceIte, Bool.not_true, Bool.not_false, Bool.false_eq_true, eq_self, hB1, fMod_v hB2]) ?_
  simp only [ev_seq, at_nx, at_rt, toS_ok, bind_ok, ev_if, ev_set, ev_ret, ev_drop, ev_var, ev_move, ev_c, ev_nil, ev_cons, ev_tup, ev_lst, ev_B, asBl_bl, ev_and, ev_or, ev_not, ev_ifx, ev_andV, ev_orV, ev_notV, ev_op1n, ev_op1x, ev_op2nn, ev_op2nx, ev_op2xn, ev_op2xx, fin_val, fin_new, fin_ite, asStr_str, ev_m0, ev_m1n, ev_m1x, asInt_int, part_none, part_n, part_x, ev_sln, ev_slx, ev_chain, rd_0, st_0, rd_1, st_1, rd_2, st_2, rd_3, st_3, rd_4, st_4, rd_5, st_5, rd_6, st_6, rd_7, st_7, rd_8, st_8, rd_9, st_9, rd_10, st_10, rd_11, st_11, D.frz, D.frzs, Kd.frz, Md.sh', Nk.kd, List.map_cons, List.map_nil, List.replicate_zero, List.replicate_succ, List.cons_append, List.nil_append, List.length_cons, List.length_nil, Nat.reduceAdd, Nat.reduceSub, Nat.reduceLT, if_true, if_false, ite_true, ite_false, reduceIte, Bool.not_true, Bool.not_false, Bool.false_eq_true, eq_self, cl_is_among, hs1, hs2, hs3, r1, r2, is2, is3]

theorem turns (a0 : Option D) : ∀ (l : List Int) (ws : List Str) (a2 a3 a4 a5 a6 a7 a8 a9 : Option D), (∀ w ∈ ws, Word w) → ws.length + l.length * 2 ≤ 200 →
    ∃ (us : List Str) (b2 b3 b4 b5 b6 b7 b8 b9 : Option D), (∀ w ∈ us, Word w) ∧ us.length = ws.length + l.length * 2 ∧ loop (.nm 2) bturn (l.map .int) [a0, some (.con (.lst .own) (ws.map .str)), a2, a3, a4, a5, a6, a7, a8, a9] = .nx [a0, some (.con (.lst .own) (us.map .str)), b2, b3, b4, b5, b6, b7, b8, b9]
  | [], ws, a2, a3, a4, a5, a6, a7, a8, a9, h, hl => ⟨ws, a2, a3, a4, a5, a6, a7, a8, a9, h, rfl, rfl⟩
  | c :: l, ws, a2, a3, a4, a5, a6, a7, a8, a9, h, hl => by
    rw [List.length_cons] at hl
    obtain ⟨w1, w2, b3, b4, b5, b6, b7, b8, b9, W1, W2, hb⟩ := turn h (by omega) a0 c a3 a4 a5 a6 a7 a8 a9
    have hws : ∀ w ∈ ws ++ [w1, w2], Word w := by
      intro w hw
      simp only [List.mem_append, List.mem_cons, List.not_mem_nil, or_false] at hw
      rcases hw with hw | rfl | rfl
      · exact h w hw
      · exact W1
      · exact W2
    have hlen : (ws ++ [w1, w2]).length = ws.length + 2 := by rw [List.length_append]; rfl
    obtain ⟨us, e2, e3, e4, e5, e6, e7, e8, e9, U1, U2, U3⟩ := turns a0 l (ws ++ [w1, w2]) (some (.int c)) b3 b4 b5 b6 b7 b8 b9 hws (by omega)
    refine ⟨us, e2, e3, e4, e5, e6, e7, e8, e9, U1, by rw [U2, hlen, List.length_cons]; omega, ?_⟩
    rw [List.map_cons, loop_step (δ1 := [a0, some (.con (.lst .own) (ws.map .str)), some (.int c), a3, a4, a5, a6, a7, a8, a9]) rfl hb]
    rw [List.map_append] at U3
    exact U3
theorem pures_ints (l : List Int) : D.pures (l.map D.int) = true := by
  induction l with
  | nil => rfl
  | cons c l ih => exact ih
theorem law_true : ∀ ns : List Int, ns.length ≤ 63 → ∃ as, m_law [.con (.lst .fz) (ns.map .int)] = .ok (.bl true) as := by
  intro ns hns
  have hsl : fSl none (some 63) [.con (.lst .fz) (ns.map D.int)] = .new .lst (ns.map D.int) := by
    show (if D.pures (ns.map D.int) = true then Res.new .lst (cutD (ns.map D.int) none (some 63)) else .bad) = _
    rw [pures_ints, if_pos rfl]
    congr 1
    unfold cutD
    rw [HT.sIx_none, show HT.sIx (ns.map D.int).length (ns.map D.int).length (some 63) = min 63 (ns.map D.int).length from HT.sIx_nat _ _ 63, List.drop_zero, Nat.sub_zero]
    exact List.take_of_length_le (by rw [List.length_map]; omega)
  have hsum : fSum [.con (.lst .fz) (ns.map D.int)] = .val (.int ns.sum) := by
    show (match intsD (ns.map D.int) with
      | some l => Res.val (.int l.sum)
      | none => .bad) = _
    rw [intsD_map]
  have hcat : fAdd [.con (.lst .sh) (ns.map D.int), .con (.lst .sh) [.int ns.sum]] = .new .lst ((ns ++ [ns.sum]).map D.int) := by
    show (if (D.pures (ns.map D.int) && D.pures [.int ns.sum] && decide ((ns.map D.int).length + [D.int ns.sum].length ≤ sizeLine)) = true then Res.new .lst (ns.map D.int ++ [.int ns.sum]) else .bad) = _
    rw [pures_ints, if_pos, List.map_append]
    · rfl
    · have := line_big
      rw [decide_eq_true (show (ns.map D.int).length + [D.int ns.sum].length ≤ sizeLine by
        rw [List.length_map]
        show ns.length + 1 ≤ _
        omega)]
      rfl
  obtain ⟨us, b2, b3, b4, b5, b6, b7, b8, b9, U1, U2, U3⟩ := turns (some (.con (.lst .fz) (ns.map D.int))) (ns ++ [ns.sum]) [] none none none none none none none none (fun w hw => nomatch hw) (by
    rw [List.length_append, List.length_nil]
    show 0 + (ns.length + 1) * 2 ≤ 200
    omega)
  have hul : us.length = 0 + (ns.length + 1) * 2 := by
    rw [U2, List.length_append]
    rfl
  have une : us ≠ [] := fun e => by
    rw [e, List.length_nil] at hul
    omega
  have hfz : D.frzs (ns.map D.int) = ns.map D.int := frzs_of_pure _ (pures_ints ns)
  have hfz2 : D.frzs ((ns ++ [ns.sum]).map D.int) = (ns ++ [ns.sum]).map D.int := frzs_of_pure _ (pures_ints _)
  have hfu : D.frzs (us.map D.str) = us.map D.str := frzs_of_pure _ (pures_strs us)
  have k1 : 1 ≤ sizeLine := by decide
  have k0 : 0 ≤ sizeLine := Nat.zero_le _
  have hseq : mSeq (mOp fAdd [(.ex (mSl (.nm 0) none (some (.ex (mC (.int 63)))))), (.ex (mLst (mCons (mOp fSum [(.nm 0)]) mNil)))]) [some (.con (.lst .fz) (ns.map D.int)), some (.con (.lst .own) []), none, none, none, none, none, none, none, none]
      = .ok ((ns ++ [ns.sum]).map D.int) [some (.con (.lst .fz) (ns.map D.int)), some (.con (.lst .own) []), none, none, none, none, none, none, none, none] := by
    unfold mSeq
    simp only [ev_seq, at_nx, at_rt, toS_ok, bind_ok, ev_if, ev_set, ev_ret, ev_drop, ev_var, ev_move, ev_c, ev_nil, ev_cons, ev_tup, ev_lst, ev_B, asBl_bl, ev_and, ev_or, ev_not, ev_ifx, ev_andV, ev_orV, ev_notV, ev_op1n, ev_op1x, ev_op2nn, ev_op2nx, ev_op2xn, ev_op2xx, fin_val, fin_new, fin_ite, asStr_str, ev_m0, ev_m1n, ev_m1x, asInt_int, part_none, part_n, part_x, ev_sln, ev_slx, ev_chain, rd_0, st_0, rd_1, st_1, rd_2, st_2, rd_3, st_3, rd_4, st_4, rd_5, st_5, rd_6, st_6, rd_7, st_7, rd_8, st_8, rd_9, st_9, rd_10, st_10, rd_11, st_11, D.frz, D.frzs, Kd.frz, Md.sh', Nk.kd, List.map_cons, List.map_nil, List.replicate_zero, List.replicate_succ, List.cons_append, List.nil_append, List.length_cons, List.length_nil, Nat.reduceAdd, Nat.reduceSub, Nat.reduceLT, if_true, if_false, ite_true, ite_false, reduceIte, Bool.not_true, Bool.not_false, Bool.false_eq_true, eq_self, hsl, hsum, hfz, k1, hcat]
    show (match items (.con (.lst .sh) (D.frzs ((ns ++ [ns.sum]).map D.int))) with
      | some es => R.ok es _
      | none => .bad) = _
    rw [hfz2]
    rfl
  have hnil : Txt.split ("" : Str) " " = [("" : Str)] := by decide +kernel
  have hw0 : ∀ δ, app m_words_of [.str ""] δ = .ok .non δ := fun δ => by
    rw [ap_words_of "" (by decide +kernel) δ, hnil]
    rfl
  have hrow := fun δ => ap_law_row (mixed ns.sum 2) U1 une (by omega) δ
  have hmx := fun δ => ap_mixed ns.sum 2 (by decide) (by decide) δ
  have is1 : fIs false [.non, .non] = .val (.bl true) := rfl
  obtain ⟨as, h1, h2⟩ : Ret m_law [.con (.lst .fz) (ns.map .int)] (.bl true) := by
    refine ret_rt rfl (δ := [some (.con (.lst .fz) (ns.map D.int)), some (.con (.lst .sh) (us.map D.str)), b2, b3, b4, b5, b6, b7, b8, b9]) ?_
    show b_law [some (.con (.lst .fz) (ns.map D.int)), none, none, none, none, none, none, none, none, none] = _
    rw [b_law_eq]
    refine seq_nx (δ1 := [some (.con (.lst .fz) (ns.map D.int)), some (.con (.lst .own) []), none, none, none, none, none, none, none, none]) (by simp only [ev_seq, at_nx, at_rt, toS_ok, bind_ok, ev_if, ev_set, ev_ret, ev_drop, ev_var, ev_move, ev_c, ev_nil, ev_cons, ev_tup, ev_lst, ev_B, asBl_bl, ev_and, ev_or, ev_not, ev_ifx, ev_andV, ev_orV, ev_notV, ev_op1n, ev_op1x, ev_op2nn, ev_op2nx, ev_op2xn, ev_op2xx, fin_val, fin_new, fin_ite, asStr_str, ev_m0, ev_m1n, ev_m1x, asInt_int, part_none, part_n, part_x, ev_sln, ev_slx, ev_chain, rd_0, st_0, rd_1, st_1, rd_2, st_2, rd_3, st_3, rd_4, st_4, rd_5, st_5, rd_6, st_6, rd_7, st_7, rd_8, st_8, rd_9, st_9, rd_10, st_10, rd_11, st_11, D.frz, D.frzs, Kd.frz, Md.sh', Nk.kd, List.map_cons, List.map_nil, List.replicate_zero, List.replicate_succ, List.cons_append, List.nil_append, List.length_cons, List.length_nil, Nat.reduceAdd, Nat.reduceSub, Nat.reduceLT, if_true, if_false, ite_true, ite_false, reduceIte, Bool.not_true, Bool.not_false, Bool.false_eq_true, eq_self, k0]) ?_
    refine seq_nx (δ1 := [some (.con (.lst .fz) (ns.map D.int)), some (.con (.lst .own) (us.map D.str)), b2, b3, b4, b5, b6, b7, b8, b9]) ?_ ?_
    · rw [ev_for, hseq, toS_ok]
      exact U3
    · simp only [ev_seq, at_nx, at_rt, toS_ok, bind_ok, ev_if, ev_set, ev_ret, ev_drop, ev_var, ev_move, ev_c, ev_nil, ev_cons, ev_tup, ev_lst, ev_B, asBl_bl, ev_and, ev_or, ev_not, ev_ifx, ev_andV, ev_orV, ev_notV, ev_op1n, ev_op1x, ev_op2nn, ev_op2nx, ev_op2xn, ev_op2xx, fin_val, fin_new, fin_ite, asStr_str, ev_m0, ev_m1n, ev_m1x, asInt_int, part_none, part_n, part_x, ev_sln, ev_slx, ev_chain, rd_0, st_0, rd_1, st_1, rd_2, st_2, rd_3, st_3, rd_4, st_4, rd_5, st_5, rd_6, st_6, rd_7, st_7, rd_8, st_8, rd_9, st_9, rd_10, st_10, rd_11, st_11, D.frz, D.frzs, Kd.frz, Md.sh', Nk.kd, List.map_cons, List.map_nil, List.replicate_zero, List.replicate_succ, List.cons_append, List.nil_append, List.length_cons, List.length_nil, Nat.reduceAdd, Nat.reduceSub, Nat.reduceLT, if_true, if_false, ite_true, ite_false, reduceIte, Bool.not_true, Bool.not_false, Bool.false_eq_true, eq_self, cl_words_of, hw0, is1, cl__law_row, cl__law_mixed, hfu, hsum, hmx, hrow]
  exact ⟨as, h1⟩
end K01

namespace K01
open PySem PySem.Spec PyProof.Rows L2 DN
theorem all_mk {P : Program} {w : World} {K : PySem.W.Frag} {h : Heap} {mg : Str → Option Value} {fa : Addr} (X : K.In h) (G : h.Ns mainGlobals mg) (hfa : mg "law" = some (.ref fa))
    {f6 : Addr} {od6 an6 : Option Addr} {sl6 : Array (Option Value)} {oc6 kV6 dc6 pm6 cd6 ct6 : Value}
    {f7 : Addr} {od7 an7 : Option Addr} {sl7 : Array (Option Value)} {oc7 kV7 dc7 pm7 cd7 ct7 : Value}
    {f11 : Addr} {od11 an11 : Option Addr} {sl11 : Array (Option Value)} {oc11 kV11 dc11 pm11 cd11 ct11 : Value}
    {f8 : Addr} {od8 an8 : Option Addr} {sl8 : Array (Option Value)} {oc8 kV8 dc8 pm8 cd8 ct8 : Value}
    {f9 : Addr} {od9 an9 : Option Addr} {sl9 : Array (Option Value)} {oc9 kV9 dc9 pm9 cd9 ct9 : Value}
    {f10 : Addr} {od10 an10 : Option Addr} {sl10 : Array (Option Value)} {oc10 kV10 dc10 pm10 cd10 ct10 : Value}
    {f13 : Addr} {od13 an13 : Option Addr} {sl13 : Array (Option Value)} {oc13 kV13 dc13 pm13 cd13 ct13 : Value}
    {f14 : Addr} {od14 an14 : Option Addr} {sl14 : Array (Option Value)} {oc14 kV14 dc14 pm14 cd14 ct14 : Value}
    {f15 : Addr} {od15 an15 : Option Addr} {sl15 : Array (Option Value)} {oc15 kV15 dc15 pm15 cd15 ct15 : Value}
    {f16 : Addr} {od16 an16 : Option Addr} {sl16 : Array (Option Value)} {oc16 kV16 dc16 pm16 cd16 ct16 : Value}
    {f17 : Addr} {od17 an17 : Option Addr} {sl17 : Array (Option Value)} {oc17 kV17 dc17 pm17 cd17 ct17 : Value}
    {f18 : Addr} {od18 an18 : Option Addr} {sl18 : Array (Option Value)} {oc18 kV18 dc18 pm18 cd18 ct18 : Value}
    {yFIGURES_t : Tok}
    {yLETTERS_t : Tok}
    {yMOST_FIGURES_t : Tok}
    {yMOST_LETTERS_t : Tok}
    {yNO_NAMES_a : Addr} {yNO_NAMES_d : Option Addr} {yNO_NAMES_n : Nat} {yNO_NAMES_s : Array (Option Value)}
    {yNO_NAMES_0_t : Tok}
    {yNO_NAMES_1_t : Tok}
    {yNO_NAMES_2_t : Tok}
    {yNO_NAMES_3_t : Tok}
    {yNO_NAMES_4_t : Tok}
    {yNO_NAMES_5_t : Tok}
    {yNO_NAMES_6_t : Tok}
    (a6 : PySem.W.nsIn K mainGlobals "is_whole" = some (some (.ref f6))) (l6 : K.lookup f6 = some ⟨oc6, od6, .func (PySem.W.fnOf "is_whole" "is_whole" (defArgs s_is_whole) (defBody s_is_whole) (defScope s_is_whole) .none kV6 dc6 pm6 an6 cd6 ct6), sl6⟩) (c6 : PySem.W.codeIn K cd6 "is_whole" = true) (k6 : PySem.W.keepIn K (.ref f6) = true)
    (a7 : PySem.W.nsIn K mainGlobals "is_among" = some (some (.ref f7))) (l7 : K.lookup f7 = some ⟨oc7, od7, .func (PySem.W.fnOf "is_among" "is_among" (defArgs s_is_among) (defBody s_is_among) (defScope s_is_among) .none kV7 dc7 pm7 an7 cd7 ct7), sl7⟩) (c7 : PySem.W.codeIn K cd7 "is_among" = true) (k7 : PySem.W.keepIn K (.ref f7) = true)
    (a11 : PySem.W.nsIn K mainGlobals "_has_only" = some (some (.ref f11))) (l11 : K.lookup f11 = some ⟨oc11, od11, .func (PySem.W.fnOf "_has_only" "_has_only" (defArgs s__has_only) (defBody s__has_only) (defScope s__has_only) .none kV11 dc11 pm11 an11 cd11 ct11), sl11⟩) (c11 : PySem.W.codeIn K cd11 "_has_only" = true) (k11 : PySem.W.keepIn K (.ref f11) = true)
    (a8 : PySem.W.nsIn K mainGlobals "is_name" = some (some (.ref f8))) (l8 : K.lookup f8 = some ⟨oc8, od8, .func (PySem.W.fnOf "is_name" "is_name" (defArgs s_is_name) (defBody s_is_name) (defScope s_is_name) .none kV8 dc8 pm8 an8 cd8 ct8), sl8⟩) (c8 : PySem.W.codeIn K cd8 "is_name" = true) (k8 : PySem.W.keepIn K (.ref f8) = true)
    (a9 : PySem.W.nsIn K mainGlobals "number_of" = some (some (.ref f9))) (l9 : K.lookup f9 = some ⟨oc9, od9, .func (PySem.W.fnOf "number_of" "number_of" (defArgs s_number_of) (defBody s_number_of) (defScope s_number_of) .none kV9 dc9 pm9 an9 cd9 ct9), sl9⟩) (c9 : PySem.W.codeIn K cd9 "number_of" = true) (k9 : PySem.W.keepIn K (.ref f9) = true)
    (a10 : PySem.W.nsIn K mainGlobals "words_of" = some (some (.ref f10))) (l10 : K.lookup f10 = some ⟨oc10, od10, .func (PySem.W.fnOf "words_of" "words_of" (defArgs s_words_of) (defBody s_words_of) (defScope s_words_of) .none kV10 dc10 pm10 an10 cd10 ct10), sl10⟩) (c10 : PySem.W.codeIn K cd10 "words_of" = true) (k10 : PySem.W.keepIn K (.ref f10) = true)
    (a13 : PySem.W.nsIn K mainGlobals "_law_mixed" = some (some (.ref f13))) (l13 : K.lookup f13 = some ⟨oc13, od13, .func (PySem.W.fnOf "_law_mixed" "_law_mixed" (defArgs s__law_mixed) (defBody s__law_mixed) (defScope s__law_mixed) .none kV13 dc13 pm13 an13 cd13 ct13), sl13⟩) (c13 : PySem.W.codeIn K cd13 "_law_mixed" = true) (k13 : PySem.W.keepIn K (.ref f13) = true)
    (a14 : PySem.W.nsIn K mainGlobals "_law_word" = some (some (.ref f14))) (l14 : K.lookup f14 = some ⟨oc14, od14, .func (PySem.W.fnOf "_law_word" "_law_word" (defArgs s__law_word) (defBody s__law_word) (defScope s__law_word) .none kV14 dc14 pm14 an14 cd14 ct14), sl14⟩) (c14 : PySem.W.codeIn K cd14 "_law_word" = true) (k14 : PySem.W.keepIn K (.ref f14) = true)
    (a15 : PySem.W.nsIn K mainGlobals "_law_number" = some (some (.ref f15))) (l15 : K.lookup f15 = some ⟨oc15, od15, .func (PySem.W.fnOf "_law_number" "_law_number" (defArgs s__law_number) (defBody s__law_number) (defScope s__law_number) .none kV15 dc15 pm15 an15 cd15 ct15), sl15⟩) (c15 : PySem.W.codeIn K cd15 "_law_number" = true) (k15 : PySem.W.keepIn K (.ref f15) = true)
    (a16 : PySem.W.nsIn K mainGlobals "_law_one" = some (some (.ref f16))) (l16 : K.lookup f16 = some ⟨oc16, od16, .func (PySem.W.fnOf "_law_one" "_law_one" (defArgs s__law_one) (defBody s__law_one) (defScope s__law_one) .none kV16 dc16 pm16 an16 cd16 ct16), sl16⟩) (c16 : PySem.W.codeIn K cd16 "_law_one" = true) (k16 : PySem.W.keepIn K (.ref f16) = true)
    (a17 : PySem.W.nsIn K mainGlobals "_law_row" = some (some (.ref f17))) (l17 : K.lookup f17 = some ⟨oc17, od17, .func (PySem.W.fnOf "_law_row" "_law_row" (defArgs s__law_row) (defBody s__law_row) (defScope s__law_row) .none kV17 dc17 pm17 an17 cd17 ct17), sl17⟩) (c17 : PySem.W.codeIn K cd17 "_law_row" = true) (k17 : PySem.W.keepIn K (.ref f17) = true)
    (a18 : PySem.W.nsIn K mainGlobals "law" = some (some (.ref f18))) (l18 : K.lookup f18 = some ⟨oc18, od18, .func (PySem.W.fnOf "law" "law" (defArgs s_law) (defBody s_law) (defScope s_law) .none kV18 dc18 pm18 an18 cd18 ct18), sl18⟩) (c18 : PySem.W.codeIn K cd18 "law" = true) (k18 : PySem.W.keepIn K (.ref f18) = true)
    (z_all : PySem.W.nsIn K mainGlobals "all" = some none)
    (z_bool : PySem.W.nsIn K mainGlobals "bool" = some none)
    (z_int : PySem.W.nsIn K mainGlobals "int" = some none)
    (z_isinstance : PySem.W.nsIn K mainGlobals "isinstance" = some none)
    (z_len : PySem.W.nsIn K mainGlobals "len" = some none)
    (z_list : PySem.W.nsIn K mainGlobals "list" = some none)
    (z_range : PySem.W.nsIn K mainGlobals "range" = some none)
    (z_str : PySem.W.nsIn K mainGlobals "str" = some none)
    (z_sum : PySem.W.nsIn K mainGlobals "sum" = some none)
    (y_FIGURES : PySem.W.nsIn K mainGlobals "FIGURES" = some (some (.str "0123456789" yFIGURES_t)))
    (y_LETTERS : PySem.W.nsIn K mainGlobals "LETTERS" = some (some (.str "abcdefghijklmnopqrstuvwxyz" yLETTERS_t)))
    (y_MOST_FIGURES : PySem.W.nsIn K mainGlobals "MOST_FIGURES" = some (some (.int 10 yMOST_FIGURES_t)))
    (y_MOST_LETTERS : PySem.W.nsIn K mainGlobals "MOST_LETTERS" = some (some (.int 8 yMOST_LETTERS_t)))
    (y_NO_NAMES : PySem.W.nsIn K mainGlobals "NO_NAMES" = some (some (.ref yNO_NAMES_a)))
    (yNO_NAMES_l : K.lookup yNO_NAMES_a = some ⟨.type "tuple", yNO_NAMES_d, .seq #[(.str "any" yNO_NAMES_0_t), (.str "none" yNO_NAMES_1_t), (.str "at" yNO_NAMES_2_t), (.str "move" yNO_NAMES_3_t), (.str "box" yNO_NAMES_4_t), (.str "lend" yNO_NAMES_5_t), (.str "mend" yNO_NAMES_6_t)] yNO_NAMES_n, yNO_NAMES_s⟩) :
    ∃ fd : FuncData, (∀ (s : Shared) (v : Value), BindsTo s fd ⟨[v], []⟩ [("_law_script", v)]) ∧ ∀ base : Heap, K.In base → base.Ns mainGlobals mg → FnOk P w K mg base (L2.CX P w) 4 fa fd ["_law_script"] (spLaw K) := by
  have e := hfa.symm.trans (PySem.W.mg_of X G a18)
  cases e
  have T : Tx K mg (fun i => match i with | 6 => f6 | 7 => f7 | 11 => f11 | 8 => f8 | 9 => f9 | 10 => f10 | 13 => f13 | 14 => f14 | 15 => f15 | 16 => f16 | 17 => f17 | 18 => fa | _ => 0)
      (fun i => match i with | 6 => PySem.W.fnOf "is_whole" "is_whole" (defArgs s_is_whole) (defBody s_is_whole) (defScope s_is_whole) .none kV6 dc6 pm6 an6 cd6 ct6 | 7 => PySem.W.fnOf "is_among" "is_among" (defArgs s_is_among) (defBody s_is_among) (defScope s_is_among) .none kV7 dc7 pm7 an7 cd7 ct7 | 11 => PySem.W.fnOf "_has_only" "_has_only" (defArgs s__has_only) (defBody s__has_only) (defScope s__has_only) .none kV11 dc11 pm11 an11 cd11 ct11 | 8 => PySem.W.fnOf "is_name" "is_name" (defArgs s_is_name) (defBody s_is_name) (defScope s_is_name) .none kV8 dc8 pm8 an8 cd8 ct8 | 9 => PySem.W.fnOf "number_of" "number_of" (defArgs s_number_of) (defBody s_number_of) (defScope s_number_of) .none kV9 dc9 pm9 an9 cd9 ct9 | 10 => PySem.W.fnOf "words_of" "words_of" (defArgs s_words_of) (defBody s_words_of) (defScope s_words_of) .none kV10 dc10 pm10 an10 cd10 ct10 | 13 => PySem.W.fnOf "_law_mixed" "_law_mixed" (defArgs s__law_mixed) (defBody s__law_mixed) (defScope s__law_mixed) .none kV13 dc13 pm13 an13 cd13 ct13 | 14 => PySem.W.fnOf "_law_word" "_law_word" (defArgs s__law_word) (defBody s__law_word) (defScope s__law_word) .none kV14 dc14 pm14 an14 cd14 ct14 | 15 => PySem.W.fnOf "_law_number" "_law_number" (defArgs s__law_number) (defBody s__law_number) (defScope s__law_number) .none kV15 dc15 pm15 an15 cd15 ct15 | 16 => PySem.W.fnOf "_law_one" "_law_one" (defArgs s__law_one) (defBody s__law_one) (defScope s__law_one) .none kV16 dc16 pm16 an16 cd16 ct16 | 17 => PySem.W.fnOf "_law_row" "_law_row" (defArgs s__law_row) (defBody s__law_row) (defScope s__law_row) .none kV17 dc17 pm17 an17 cd17 ct17 | _ => PySem.W.fnOf "law" "law" (defArgs s_law) (defBody s_law) (defScope s_law) .none kV18 dc18 pm18 an18 cd18 ct18) := {
    F_is_whole := fun_mk l6 c6 k6,
    g_is_whole := PySem.W.mg_of X G a6,
    B_is_whole := (fun_mk (st := s_is_whole) l6 c6 k6).binds (ps := ["thing"]) fun _ _ _ _ _ _ us hl => match us, hl with | [_], _ => rfl,
    F_is_among := fun_mk l7 c7 k7,
    g_is_among := PySem.W.mg_of X G a7,
    B_is_among := (fun_mk (st := s_is_among) l7 c7 k7).binds (ps := ["thing", "least", "most"]) fun _ _ _ _ _ _ us hl => match us, hl with | [_, _, _], _ => rfl,
    F__has_only := fun_mk l11 c11 k11,
    g__has_only := PySem.W.mg_of X G a11,
    B__has_only := (fun_mk (st := s__has_only) l11 c11 k11).binds (ps := ["text", "signs"]) fun _ _ _ _ _ _ us hl => match us, hl with | [_, _], _ => rfl,
    F_is_name := fun_mk l8 c8 k8,
    g_is_name := PySem.W.mg_of X G a8,
    B_is_name := (fun_mk (st := s_is_name) l8 c8 k8).binds (ps := ["thing"]) fun _ _ _ _ _ _ us hl => match us, hl with | [_], _ => rfl,
    F_number_of := fun_mk l9 c9 k9,
    g_number_of := PySem.W.mg_of X G a9,
    B_number_of := (fun_mk (st := s_number_of) l9 c9 k9).binds (ps := ["word"]) fun _ _ _ _ _ _ us hl => match us, hl with | [_], _ => rfl,
    F_words_of := fun_mk l10 c10 k10,
    g_words_of := PySem.W.mg_of X G a10,
    B_words_of := (fun_mk (st := s_words_of) l10 c10 k10).binds (ps := ["row"]) fun _ _ _ _ _ _ us hl => match us, hl with | [_], _ => rfl,
    F__law_mixed := fun_mk l13 c13 k13,
    g__law_mixed := PySem.W.mg_of X G a13,
    B__law_mixed := (fun_mk (st := s__law_mixed) l13 c13 k13).binds (ps := ["_law_cell", "_law_k"]) fun _ _ _ _ _ _ us hl => match us, hl with | [_, _], _ => rfl,
    F__law_word := fun_mk l14 c14 k14,
    g__law_word := PySem.W.mg_of X G a14,
    B__law_word := (fun_mk (st := s__law_word) l14 c14 k14).binds (ps := ["_law_number_here", "_law_signs"]) fun _ _ _ _ _ _ us hl => match us, hl with | [_, _], _ => rfl,
    F__law_number := fun_mk l15 c15 k15,
    g__law_number := PySem.W.mg_of X G a15,
    B__law_number := (fun_mk (st := s__law_number) l15 c15 k15).binds (ps := ["_law_word_here"]) fun _ _ _ _ _ _ us hl => match us, hl with | [_], _ => rfl,
    F__law_one := fun_mk l16 c16 k16,
    g__law_one := PySem.W.mg_of X G a16,
    B__law_one := (fun_mk (st := s__law_one) l16 c16 k16).binds (ps := ["_law_word_here"]) fun _ _ _ _ _ _ us hl => match us, hl with | [_], _ => rfl,
    F__law_row := fun_mk l17 c17 k17,
    g__law_row := PySem.W.mg_of X G a17,
    B__law_row := (fun_mk (st := s__law_row) l17 c17 k17).binds (ps := ["_law_words", "_law_number_here"]) fun _ _ _ _ _ _ us hl => match us, hl with | [_, _], _ => rfl,
    F_law := fun_mk l18 c18 k18,
    g_law := PySem.W.mg_of X G a18,
    B_law := (fun_mk (st := s_law) l18 c18 k18).binds (ps := ["_law_script"]) fun _ _ _ _ _ _ us hl => match us, hl with | [_], _ => rfl,
    b_all := PySem.W.mg_none_of X G z_all,
    b_bool := PySem.W.mg_none_of X G z_bool,
    b_int := PySem.W.mg_none_of X G z_int,
    b_isinstance := PySem.W.mg_none_of X G z_isinstance,
    b_len := PySem.W.mg_none_of X G z_len,
    b_list := PySem.W.mg_none_of X G z_list,
    b_range := PySem.W.mg_none_of X G z_range,
    b_str := PySem.W.mg_none_of X G z_str,
    b_sum := PySem.W.mg_none_of X G z_sum,
    c_FIGURES := ⟨_, PySem.W.mg_of X G y_FIGURES, ⟨_, rfl⟩⟩,
    c_LETTERS := ⟨_, PySem.W.mg_of X G y_LETTERS, ⟨_, rfl⟩⟩,
    c_MOST_FIGURES := ⟨_, PySem.W.mg_of X G y_MOST_FIGURES, ⟨_, rfl⟩⟩,
    c_MOST_LETTERS := ⟨_, PySem.W.mg_of X G y_MOST_LETTERS, ⟨_, rfl⟩⟩,
    c_NO_NAMES := ⟨_, PySem.W.mg_of X G y_NO_NAMES, ⟨_, _, [(.str "any" yNO_NAMES_0_t), (.str "none" yNO_NAMES_1_t), (.str "at" yNO_NAMES_2_t), (.str "move" yNO_NAMES_3_t), (.str "box" yNO_NAMES_4_t), (.str "lend" yNO_NAMES_5_t), (.str "mend" yNO_NAMES_6_t)], _, rfl, yNO_NAMES_l, rfl, rfl, (by show 7 ≤ sizeLine; decide), ⟨_, _, rfl, ⟨_, rfl⟩, ⟨_, _, rfl, ⟨_, rfl⟩, ⟨_, _, rfl, ⟨_, rfl⟩, ⟨_, _, rfl, ⟨_, rfl⟩, ⟨_, _, rfl, ⟨_, rfl⟩, ⟨_, _, rfl, ⟨_, rfl⟩, ⟨_, _, rfl, ⟨_, rfl⟩, rfl⟩⟩⟩⟩⟩⟩⟩⟩⟩ }
  exact ⟨PySem.W.fnOf "law" "law" (defArgs s_law) (defBody s_law) (defScope s_law) .none kV18 dc18 pm18 an18 cd18 ct18, fun s v => .of_eq rfl, fun base _ _ => (ok_law (P := P) (w := w) (base := base) T).imp (law_sp law_true)⟩
end K01
open PySem PySem.W PyProof.Rows
set_option maxHeartbeats 0 in
theorem PySem.Challenge.cw_lastingly_k01_words_holds : PySem.Challenge.rw_lastingly_k01_words.Holds := by
  w_on; o_law; k_head; (case hw => w_witness2)
  k_fill
  refine L2.walk_of (l := PySem.Challenge.rw_lastingly_k01_words) (n := 63) (k := 4) (x := "_law_script") (CX := fun w => L2.CX PySem.Challenge.pw_lastingly_k01_words w) (sp := fun w => DN.spLaw _) rfl (by decide) rfl ⟨rfl, by decide, by decide⟩ (fun w h Y => PySem.W.kIn_of Y) ?F (fun _ _ a ns hl _ hS => ⟨a, ns, rfl, hS, hl, fun _ => rfl⟩) (fun _ _ _ _ _ h => DN.law_cx h)
  case F =>
    intro w mg fa h KX G hmg
    refine' K01.all_mk KX G hmg ?a6 ?l6 ?c6 ?k6 ?a7 ?l7 ?c7 ?k7 ?a11 ?l11 ?c11 ?k11 ?a8 ?l8 ?c8 ?k8 ?a9 ?l9 ?c9 ?k9 ?a10 ?l10 ?c10 ?k10 ?a13 ?l13 ?c13 ?k13 ?a14 ?l14 ?c14 ?k14 ?a15 ?l15 ?c15 ?k15 ?a16 ?l16 ?c16 ?k16 ?a17 ?l17 ?c17 ?k17 ?a18 ?l18 ?c18 ?k18 ?z_all ?z_bool ?z_int ?z_isinstance ?z_len ?z_list ?z_range ?z_str ?z_sum ?y_FIGURES ?y_LETTERS ?y_MOST_FIGURES ?y_MOST_LETTERS ?y_NO_NAMES ?yNO_NAMES_l
    (case a6 => k_is); (case l6 => k_is); (case c6 => k_is); (case k6 => k_is); (case a7 => k_is); (case l7 => k_is); (case c7 => k_is); (case k7 => k_is)
    (case a11 => k_is); (case l11 => k_is); (case c11 => k_is); (case k11 => k_is); (case a8 => k_is); (case l8 => k_is); (case c8 => k_is); (case k8 => k_is)
    (case a9 => k_is); (case l9 => k_is); (case c9 => k_is); (case k9 => k_is); (case a10 => k_is); (case l10 => k_is); (case c10 => k_is); (case k10 => k_is)
    (case a13 => k_is); (case l13 => k_is); (case c13 => k_is); (case k13 => k_is); (case a14 => k_is); (case l14 => k_is); (case c14 => k_is); (case k14 => k_is)
    (case a15 => k_is); (case l15 => k_is); (case c15 => k_is); (case k15 => k_is); (case a16 => k_is); (case l16 => k_is); (case c16 => k_is); (case k16 => k_is)
    (case a17 => k_is); (case l17 => k_is); (case c17 => k_is); (case k17 => k_is); (case a18 => k_is); (case l18 => k_is); (case c18 => k_is); (case k18 => k_is)
    (case z_all => k_is); (case z_bool => k_is); (case z_int => k_is); (case z_isinstance => k_is); (case z_len => k_is); (case z_list => k_is); (case z_range => k_is); (case z_str => k_is)
    (case z_sum => k_is); (case y_FIGURES => k_is); (case y_LETTERS => k_is); (case y_MOST_FIGURES => k_is); (case y_MOST_LETTERS => k_is); (case y_NO_NAMES => k_is); (case yNO_NAMES_l => k_is)

