import Derived.WalkKit
import Derived.Test.YtdkaoopkbhaheaaPJ0
namespace Go.Proofs.Ytdkaoopkbhaheaa
namespace Geo
def D (ax ay bx bY cx cy : Int) : Int := (bx - ax) * (cy - ay) - (bY - ay) * (cx - ax)
def Btw (a n b : Int) : Prop := (a ≤ n ∧ n ≤ b) ∨ (b ≤ n ∧ n ≤ a)
def Same (a b : Int) : Prop := (0 < a ∧ 0 < b) ∨ (a < 0 ∧ b < 0)
def Opp (a b : Int) : Prop := (0 < a ∧ b < 0) ∨ (a < 0 ∧ 0 < b)
def Over (a b c d : Int) : Prop := (a ≤ c ∨ a ≤ d ∨ b ≤ c ∨ b ≤ d) ∧ (c ≤ a ∨ c ≤ b ∨ d ≤ a ∨ d ≤ b)
theorem nonneg_of_mul {k x : Int} (hk : 0 < k) (h : 0 ≤ k * x) : 0 ≤ x := by
  rcases Int.lt_or_le x 0 with hx | hx
  · have := Int.mul_neg_of_pos_of_neg hk hx; omega
  · exact hx
theorem btw_pos (k g x p : Int) (hk : 0 < k) (h0 : 0 ≤ g) (h1 : g ≤ k) (h : k * x = g * p) : Btw 0 x p := by
  have e : k * (p - x) = (k - g) * p := by rw [Int.mul_sub, h, Int.sub_mul]
  rcases Int.le_total 0 p with hp | hp
  · left
    refine ⟨nonneg_of_mul hk ?_, ?_⟩
    · rw [h]; exact Int.mul_nonneg h0 hp
    · have : 0 ≤ p - x := nonneg_of_mul hk (by rw [e]; exact Int.mul_nonneg (by omega) hp)
      omega
  · right
    refine ⟨?_, ?_⟩
    · have : 0 ≤ x - p := nonneg_of_mul hk (by
        have e' : k * (x - p) = (k - g) * (-p) := by grind
        rw [e']; exact Int.mul_nonneg (by omega) (by omega))
      omega
    · have : 0 ≤ -x := nonneg_of_mul hk (by
        have e' : k * (-x) = g * (-p) := by grind
        rw [e']; exact Int.mul_nonneg h0 (by omega))
      omega
theorem btw_of (k g x p : Int) (hk : k ≠ 0) (hg : Btw 0 g k) (h : k * x = g * p) : Btw 0 x p := by
  rcases Int.lt_or_le k 0 with h0 | h0
  · have hg' : k ≤ g ∧ g ≤ 0 := by rcases hg with hg | hg <;> omega
    exact btw_pos (-k) (-g) x p (by omega) (by omega) (by omega) (by grind)
  · have hg' : 0 ≤ g ∧ g ≤ k := by rcases hg with hg | hg <;> omega
    exact btw_pos k g x p (by omega) hg'.1 hg'.2 h
theorem btw_shift {a n b : Int} : Btw a n b ↔ Btw 0 (n - a) (b - a) := by unfold Btw; omega
theorem btw_swap {a n b : Int} : Btw a n b ↔ Btw b n a := by unfold Btw; omega
theorem not_same (s t a b : Int) (hs : 0 ≤ s) (ht : 0 ≤ t) (hst : 0 < s + t) (h : s * a + t * b = 0) : ¬ Same a b := by
  rintro (⟨ha, hb⟩ | ⟨ha, hb⟩)
  · have h1 : 0 ≤ s * a := Int.mul_nonneg hs (by omega)
    have h2 : 0 ≤ t * b := Int.mul_nonneg ht (by omega)
    rcases Int.lt_or_le 0 s with h3 | h3
    · have := Int.mul_pos h3 ha; omega
    · have := Int.mul_pos (show 0 < t by omega) hb; omega
  · have h1 : 0 ≤ s * (-a) := Int.mul_nonneg hs (by omega)
    have h2 : 0 ≤ t * (-b) := Int.mul_nonneg ht (by omega)
    have e1 : s * (-a) = -(s * a) := Int.mul_neg s a
    have e2 : t * (-b) = -(t * b) := Int.mul_neg t b
    rcases Int.lt_or_le 0 s with h3 | h3
    · have := Int.mul_pos h3 (show 0 < -a by omega); omega
    · have := Int.mul_pos (show 0 < t by omega) (show 0 < -b by omega); omega
theorem weights (ux uy vx vy : Int) (hx : Btw ux 0 vx) (hy : Btw uy 0 vy) (hc : ux * vy = uy * vx) :
    ∃ s t : Int, 0 ≤ s ∧ 0 ≤ t ∧ 0 < s + t ∧ s * ux + t * vx = 0 ∧ s * uy + t * vy = 0 := by
  by_cases h0 : ux = 0 ∧ vx = 0
  · obtain ⟨h1, h2⟩ := h0
    by_cases h3 : uy = 0 ∧ vy = 0
    · exact ⟨1, 1, by omega, by omega, by omega, by omega, by omega⟩
    · rcases hy with hy | hy
      · exact ⟨vy, -uy, by omega, by omega, by omega, by rw [h1, h2]; grind, by grind⟩
      · exact ⟨-vy, uy, by omega, by omega, by omega, by rw [h1, h2]; grind, by grind⟩
  · rcases hx with hx | hx
    · exact ⟨vx, -ux, by omega, by omega, by omega, by grind, by grind⟩
    · exact ⟨-vx, ux, by omega, by omega, by omega, by grind, by grind⟩
theorem on_opp (ax ay bx bY cx cy dx dy : Int) (hc : D cx cy dx dy ax ay = 0) (hx : Btw cx ax dx) (hy : Btw cy ay dy) : ¬ Same (D ax ay bx bY cx cy) (D ax ay bx bY dx dy) := by
  obtain ⟨s, t, hs, ht, hst, e1, e2⟩ := weights (cx - ax) (cy - ay) (dx - ax) (dy - ay) (by unfold Btw at *; omega) (by unfold Btw at *; omega) (by unfold D at hc; grind)
  refine not_same s t _ _ hs ht hst ?_
  unfold D
  grind
theorem D_flip (ax ay bx bY cx cy : Int) : D bx bY ax ay cx cy = - D ax ay bx bY cx cy := by unfold D; grind
theorem same_neg (a b : Int) : Same (-a) (-b) ↔ Same a b := by unfold Same; omega
theorem cross_over (ax bx cx dx α β γ δ : Int) (hk : γ - δ = β - α) (h1 : Opp α β) (h2 : Opp γ δ) (e : γ * bx - δ * ax = β * cx - α * dx) : Over ax bx cx dx := by
  have key : ∀ (g d b a M : Int), 0 < g → 0 < d → b ≤ M → a ≤ M → g * b + d * a ≤ (g + d) * M := by
    intro g d b a M hg hd hb ha
    have h1 := Int.mul_le_mul_of_nonneg_left hb (Int.le_of_lt hg)
    have h2 := Int.mul_le_mul_of_nonneg_left ha (Int.le_of_lt hd)
    rw [Int.add_mul]; omega
  have key2 : ∀ (g d b a M : Int), 0 < g → 0 < d → M ≤ b → M ≤ a → (g + d) * M ≤ g * b + d * a := by
    intro g d b a M hg hd hb ha
    have h1 := Int.mul_le_mul_of_nonneg_left hb (Int.le_of_lt hg)
    have h2 := Int.mul_le_mul_of_nonneg_left ha (Int.le_of_lt hd)
    rw [Int.add_mul]; omega
  -- for weights above nought
  have main : ∀ (g d b' a' : Int), 0 < g → 0 < d → 0 < b' → 0 < a' → g + d = b' + a' → g * bx + d * ax = b' * cx + a' * dx → Over ax bx cx dx := by
    intro g d b' a' hg hd hb ha hs he
    constructor
    · rcases Classical.em (ax ≤ cx ∨ ax ≤ dx ∨ bx ≤ cx ∨ bx ≤ dx) with h | h
      · exact h
      · exfalso
        have hM : ∃ M, M < ax ∧ M < bx ∧ cx ≤ M ∧ dx ≤ M := by
          rcases Int.le_total cx dx with h' | h'
          · exact ⟨dx, by omega, by omega, by omega, by omega⟩
          · exact ⟨cx, by omega, by omega, by omega, by omega⟩
        obtain ⟨M, m1, m2, m3, m4⟩ := hM
        have k1 := key b' a' cx dx M hb ha m3 m4
        have k2 := key2 g d bx ax (M + 1) hg hd (by omega) (by omega)
        rw [hs] at k2
        have : (b' + a') * (M + 1) = (b' + a') * M + (b' + a') := by grind
        omega
    · rcases Classical.em (cx ≤ ax ∨ cx ≤ bx ∨ dx ≤ ax ∨ dx ≤ bx) with h | h
      · exact h
      · exfalso
        have hM : ∃ M, M < cx ∧ M < dx ∧ ax ≤ M ∧ bx ≤ M := by
          rcases Int.le_total ax bx with h' | h'
          · exact ⟨bx, by omega, by omega, by omega, by omega⟩
          · exact ⟨ax, by omega, by omega, by omega, by omega⟩
        obtain ⟨M, m1, m2, m3, m4⟩ := hM
        have k1 := key g d bx ax M hg hd m4 m3
        have k2 := key2 b' a' cx dx (M + 1) hb ha (by omega) (by omega)
        rw [← hs] at k2
        have : (g + d) * (M + 1) = (g + d) * M + (g + d) := by grind
        omega
  rcases h2 with ⟨g1, g2⟩ | ⟨g1, g2⟩
  · rcases h1 with ⟨a1, a2⟩ | ⟨a1, a2⟩
    · omega
    · exact main γ (-δ) β (-α) (by omega) (by omega) (by omega) (by omega) (by omega) (by grind)
  · rcases h1 with ⟨a1, a2⟩ | ⟨a1, a2⟩
    · exact main (-γ) δ (-β) α (by omega) (by omega) (by omega) (by omega) (by omega) (by grind)
    · omega
theorem over_of_btw1 {a b c d : Int} (h : Btw c a d) : Over a b c d := by unfold Btw Over at *; omega
theorem over_of_btw2 {a b c d : Int} (h : Btw c b d) : Over a b c d := by unfold Btw Over at *; omega
theorem over_of_btw3 {a b c d : Int} (h : Btw a c b) : Over a b c d := by unfold Btw Over at *; omega
theorem over_of_btw4 {a b c d : Int} (h : Btw a d b) : Over a b c d := by unfold Btw Over at *; omega
theorem over_cases {a b c d : Int} (h : Over a b c d) : Btw c a d ∨ Btw c b d ∨ Btw a c b ∨ Btw a d b := by unfold Btw Over at *; omega
theorem mul_zero_right {k x : Int} (h : k * x = 0) (hk : k ≠ 0) : x = 0 := by
  rcases Int.mul_eq_zero.1 h with h | h
  · exact absurd h hk
  · exact h
theorem end_on (ax ay bx bY cx cy dx dy : Int) (hα : D ax ay bx bY cx cy = 0) (hβ : D ax ay bx bY dx dy ≠ 0) (hs : ¬ Same (D cx cy dx dy ax ay) (D cx cy dx dy bx bY)) : Btw ax cx bx ∧ Btw ay cy bY := by
  have k : D cx cy dx dy ax ay - D cx cy dx dy bx bY = D ax ay bx bY dx dy := by unfold D at *; grind
  have ex : (D cx cy dx dy ax ay - D cx cy dx dy bx bY) * (cx - ax) = D cx cy dx dy ax ay * (bx - ax) := by unfold D at *; grind
  have ey : (D cx cy dx dy ax ay - D cx cy dx dy bx bY) * (cy - ay) = D cx cy dx dy ax ay * (bY - ay) := by unfold D at *; grind
  generalize D cx cy dx dy ax ay = γ at *
  generalize D cx cy dx dy bx bY = δ at *
  have hg : Btw 0 γ (γ - δ) := by unfold Btw Same at *; omega
  exact ⟨btw_shift.2 (btw_of (γ - δ) γ _ _ (by omega) hg ex), btw_shift.2 (btw_of (γ - δ) γ _ _ (by omega) hg ey)⟩
theorem line_x (px py ux uy vx vy : Int) (h1 : px * uy = py * ux) (h2 : px * vy = py * vx) (h3 : ux * vy = uy * vx) (hn : ¬ (px = 0 ∧ ux = 0 ∧ vx = 0)) :
    (Btw 0 ux px → Btw 0 uy py) ∧ (Btw 0 vx px → Btw 0 vy py) ∧ (Btw ux 0 vx → Btw uy 0 vy) ∧ (Btw ux px vx → Btw uy py vy) := by
  refine ⟨fun h => ?_, fun h => ?_, fun h => ?_, fun h => ?_⟩
  · by_cases hp : px = 0
    · have hu : ux = 0 := by unfold Btw at h; omega
      have hv : vx ≠ 0 := fun e => hn ⟨hp, hu, e⟩
      have e1 : py = 0 := mul_zero_right (k := vx) (by rw [hp] at h2; grind) hv
      have e2 : uy = 0 := mul_zero_right (k := vx) (by rw [hu] at h3; grind) hv
      unfold Btw; omega
    · exact btw_of px ux uy py hp h (by grind)
  · by_cases hp : px = 0
    · have hu : vx = 0 := by unfold Btw at h; omega
      have hv : ux ≠ 0 := fun e => hn ⟨hp, e, hu⟩
      have e1 : py = 0 := mul_zero_right (k := ux) (by rw [hp] at h1; grind) hv
      have e2 : vy = 0 := mul_zero_right (k := ux) (by rw [hu] at h3; grind) hv
      unfold Btw; omega
    · exact btw_of px vx vy py hp h (by grind)
  · rw [btw_shift] at h ⊢
    by_cases hk : vx - ux = 0
    · have hu : ux = 0 := by unfold Btw at h; omega
      have hv : vx = 0 := by omega
      have hp : px ≠ 0 := fun e => hn ⟨e, hu, hv⟩
      have e1 : uy = 0 := mul_zero_right (k := px) (by rw [hu] at h1; grind) hp
      have e2 : vy = 0 := mul_zero_right (k := px) (by rw [hv] at h2; grind) hp
      unfold Btw; omega
    · exact btw_of (vx - ux) (0 - ux) (0 - uy) (vy - uy) hk h (by grind)
  · rw [btw_shift] at h ⊢
    by_cases hk : vx - ux = 0
    · have hu : px = ux := by unfold Btw at h; omega
      have hv : vx = ux := by omega
      have hp : ux ≠ 0 := fun e => hn ⟨by omega, e, by omega⟩
      have e1 : uy = py := by
        have : uy - py = 0 := mul_zero_right (k := ux) (by rw [hu] at h1; grind) hp
        omega
      have e2 : vy = uy := by
        have : vy - uy = 0 := mul_zero_right (k := ux) (by rw [hv] at h3; grind) hp
        omega
      unfold Btw; omega
    · exact btw_of (vx - ux) (px - ux) (py - uy) (vy - uy) hk h (by grind)
theorem line_on (px py ux uy vx vy : Int) (h1 : px * uy = py * ux) (h2 : px * vy = py * vx) (h3 : ux * vy = uy * vx) (ox : Over 0 px ux vx) (oy : Over 0 py uy vy) :
    (Btw ux 0 vx ∧ Btw uy 0 vy) ∨ (Btw ux px vx ∧ Btw uy py vy) ∨ (Btw 0 ux px ∧ Btw 0 uy py) ∨ (Btw 0 vx px ∧ Btw 0 vy py) := by
  by_cases hn : px = 0 ∧ ux = 0 ∧ vx = 0
  · obtain ⟨e1, e2, e3⟩ := hn
    have z : Btw 0 0 0 := by unfold Btw; omega
    rcases over_cases oy with h | h | h | h
    · exact .inl ⟨by rw [e2, e3]; exact z, h⟩
    · exact .inr (.inl ⟨by rw [e1, e2, e3]; exact z, h⟩)
    · exact .inr (.inr (.inl ⟨by rw [e1, e2]; exact z, h⟩))
    · exact .inr (.inr (.inr ⟨by rw [e1, e3]; exact z, h⟩))
  · obtain ⟨k1, k2, k3, k4⟩ := line_x px py ux uy vx vy h1 h2 h3 hn
    rcases over_cases ox with h | h | h | h
    · exact .inl ⟨h, k3 h⟩
    · exact .inr (.inl ⟨h, k4 h⟩)
    · exact .inr (.inr (.inl ⟨h, k1 h⟩))
    · exact .inr (.inr (.inr ⟨h, k2 h⟩))
def On (px py ax ay bx bY : Int) : Prop := D ax ay bx bY px py = 0 ∧ Btw ax px bx ∧ Btw ay py bY
theorem meet_iff (ax ay bx bY cx cy dx dy : Int) :
    (Over ax bx cx dx ∧ Over ay bY cy dy ∧ ¬ Same (D ax ay bx bY cx cy) (D ax ay bx bY dx dy) ∧ ¬ Same (D cx cy dx dy ax ay) (D cx cy dx dy bx bY)) ↔
    (On ax ay cx cy dx dy ∨ On bx bY cx cy dx dy ∨ On cx cy ax ay bx bY ∨ On dx dy ax ay bx bY ∨
      (Opp (D ax ay bx bY cx cy) (D ax ay bx bY dx dy) ∧ Opp (D cx cy dx dy ax ay) (D cx cy dx dy bx bY))) := by
  have hk : D cx cy dx dy ax ay - D cx cy dx dy bx bY = D ax ay bx bY dx dy - D ax ay bx bY cx cy := by unfold D; grind
  constructor
  · rintro ⟨ox, oy, s1, s2⟩
    by_cases hα : D ax ay bx bY cx cy = 0
    · by_cases hβ : D ax ay bx bY dx dy = 0
      · -- all on one line
        have hγ : D cx cy dx dy ax ay = 0 := by unfold Same at s2; omega
        have k := line_on (bx - ax) (bY - ay) (cx - ax) (cy - ay) (dx - ax) (dy - ay) (by unfold D at hα; omega) (by unfold D at hβ; omega) (by unfold D at hγ; grind)
          (by unfold Over at *; omega) (by unfold Over at *; omega)
        have hδ : D cx cy dx dy bx bY = 0 := by omega
        rcases k with ⟨k1, k2⟩ | ⟨k1, k2⟩ | ⟨k1, k2⟩ | ⟨k1, k2⟩
        · exact .inl ⟨hγ, by unfold Btw at *; omega, by unfold Btw at *; omega⟩
        · exact .inr (.inl ⟨hδ, by unfold Btw at *; omega, by unfold Btw at *; omega⟩)
        · exact .inr (.inr (.inl ⟨hα, by unfold Btw at *; omega, by unfold Btw at *; omega⟩))
        · exact .inr (.inr (.inr (.inl ⟨hβ, by unfold Btw at *; omega, by unfold Btw at *; omega⟩)))
      · obtain ⟨k1, k2⟩ := end_on ax ay bx bY cx cy dx dy hα hβ s2
        exact .inr (.inr (.inl ⟨hα, k1, k2⟩))
    · by_cases hβ : D ax ay bx bY dx dy = 0
      · have s2' : ¬ Same (D dx dy cx cy ax ay) (D dx dy cx cy bx bY) := by rw [D_flip, D_flip cx cy dx dy bx bY, same_neg]; exact s2
        obtain ⟨k1, k2⟩ := end_on ax ay bx bY dx dy cx cy hβ hα s2'
        exact .inr (.inr (.inr (.inl ⟨hβ, k1, k2⟩)))
      · by_cases hγ : D cx cy dx dy ax ay = 0
        · by_cases hδ : D cx cy dx dy bx bY = 0
          · exfalso; unfold Same at s1; omega
          · obtain ⟨k1, k2⟩ := end_on cx cy dx dy ax ay bx bY hγ hδ s1
            exact .inl ⟨hγ, k1, k2⟩
        · by_cases hδ : D cx cy dx dy bx bY = 0
          · have s1' : ¬ Same (D bx bY ax ay cx cy) (D bx bY ax ay dx dy) := by rw [D_flip, D_flip ax ay bx bY dx dy, same_neg]; exact s1
            obtain ⟨k1, k2⟩ := end_on cx cy dx dy bx bY ax ay hδ hγ s1'
            exact .inr (.inl ⟨hδ, k1, k2⟩)
          · refine .inr (.inr (.inr (.inr ⟨?_, ?_⟩)))
            · unfold Same at s1; unfold Opp; omega
            · unfold Same at s2; unfold Opp; omega
  · rintro (⟨h, hx, hy⟩ | ⟨h, hx, hy⟩ | ⟨h, hx, hy⟩ | ⟨h, hx, hy⟩ | ⟨h1, h2⟩)
    · refine ⟨over_of_btw1 hx, over_of_btw1 hy, on_opp ax ay bx bY cx cy dx dy h hx hy, ?_⟩
      unfold Same; omega
    · refine ⟨over_of_btw2 hx, over_of_btw2 hy, ?_, ?_⟩
      · rw [← same_neg, ← D_flip, ← D_flip]; exact on_opp bx bY ax ay cx cy dx dy h hx hy
      · unfold Same; omega
    · refine ⟨over_of_btw3 hx, over_of_btw3 hy, ?_, on_opp cx cy dx dy ax ay bx bY h hx hy⟩
      unfold Same; omega
    · refine ⟨over_of_btw4 hx, over_of_btw4 hy, ?_, ?_⟩
      · unfold Same; omega
      · rw [← same_neg, ← D_flip, ← D_flip]; exact on_opp dx dy cx cy ax ay bx bY h hx hy
    · refine ⟨cross_over ax bx cx dx _ _ _ _ hk h1 h2 (by unfold D; grind), cross_over ay bY cy dy _ _ _ _ hk h1 h2 (by unfold D; grind), ?_, ?_⟩
      · unfold Opp at h1; unfold Same; omega
      · unfold Opp at h2; unfold Same; omega
end Geo
end Go.Proofs.Ytdkaoopkbhaheaa
namespace Go.Proofs.Ytdkaoopkbhaheaa
namespace Jor
abbrev IP := Int × Int
def toR (z : IP) : Pt := ((z.1 : Rat), (z.2 : Rat))
def DI (a b c : IP) : Int := Geo.D a.1 a.2 b.1 b.2 c.1 c.2
def OnI (p a b : IP) : Prop := Geo.On p.1 p.2 a.1 a.2 b.1 b.2
def MtI (q r a b : IP) : Prop := Geo.Over q.1 r.1 a.1 b.1 ∧ Geo.Over q.2 r.2 a.2 b.2 ∧ ¬ Geo.Same (DI q r a) (DI q r b) ∧ ¬ Geo.Same (DI a b q) (DI a b r)
def crI (q a b : IP) : Int := if a.2 ≤ q.2 ∧ q.2 < b.2 ∧ 0 < DI a b q then 1 else if b.2 ≤ q.2 ∧ q.2 < a.2 ∧ DI a b q < 0 then -1 else 0
theorem le_toR (a b : Int) : (a : Rat) ≤ (b : Rat) ↔ a ≤ b := Rat.intCast_le_intCast
theorem lt_toR (a b : Int) : (a : Rat) < (b : Rat) ↔ a < b := Rat.intCast_lt_intCast
theorem pos_toR (a : Int) : (0 : Rat) < (a : Rat) ↔ 0 < a := lt_toR 0 a
theorem neg_toR (a : Int) : (a : Rat) < 0 ↔ a < 0 := lt_toR a 0
theorem D_toR (a b c : IP) : D (toR a) (toR b) (toR c) = ((DI a b c : Int) : Rat) := by
  unfold D DI Geo.D toR
  simp only [Rat.intCast_sub, Rat.intCast_mul]
theorem cr_toR (q a b : IP) : cr (toR q) (toR a) (toR b) = crI q a b := by
  unfold cr crI
  rw [D_toR]
  simp only [toR, le_toR, lt_toR, pos_toR, neg_toR]
theorem Mt_toR (q r a b : IP) : Mt (toR q) (toR r) (toR a) (toR b) ↔ MtI q r a b := by
  unfold Mt MtI Over Same Geo.Over Geo.Same
  rw [D_toR, D_toR, D_toR, D_toR]
  simp only [toR, le_toR, pos_toR, neg_toR]
theorem sq_nonneg_int (x : Int) : 0 ≤ x * x := by
  rcases Int.le_total 0 x with h | h
  · exact Int.mul_nonneg h h
  · have := Int.mul_nonneg (show 0 ≤ -x by omega) (show 0 ≤ -x by omega)
    have e : -x * -x = x * x := Int.neg_mul_neg x x
    omega
theorem btw_two (a1 a2 c1 c2 : Int) (hc : a1 * c2 = a2 * c1) (h1 : 0 < a1 * c1) : (Geo.Btw 0 a1 c1 ∧ Geo.Btw 0 a2 c2) ∨ (Geo.Btw 0 c1 a1 ∧ Geo.Btw 0 c2 a2) := by
  have hc1 : c1 ≠ 0 := fun e => by rw [e] at h1; simp at h1
  have ha1 : a1 ≠ 0 := fun e => by rw [e] at h1; simp at h1
  have hsame : (0 < a1 ∧ 0 < c1) ∨ (a1 < 0 ∧ c1 < 0) := by
    rcases Int.lt_or_le 0 a1 with h | h
    · rcases Int.lt_or_le 0 c1 with h' | h'
      · exact .inl ⟨h, h'⟩
      · have := Int.mul_nonneg (show 0 ≤ a1 by omega) (show 0 ≤ -c1 by omega)
        have e : a1 * -c1 = -(a1 * c1) := Int.mul_neg a1 c1
        omega
    · rcases Int.lt_or_le 0 c1 with h' | h'
      · have := Int.mul_nonneg (show 0 ≤ -a1 by omega) (show 0 ≤ c1 by omega)
        have e : -a1 * c1 = -(a1 * c1) := Int.neg_mul a1 c1
        omega
      · exact .inr ⟨by omega, by omega⟩
  have hb : Geo.Btw 0 a1 c1 ∨ Geo.Btw 0 c1 a1 := by unfold Geo.Btw; omega
  rcases hb with hb | hb
  · exact .inl ⟨hb, Geo.btw_of c1 a1 a2 c2 hc1 hb (by grind)⟩
  · exact .inr ⟨hb, Geo.btw_of a1 c1 c2 a2 ha1 hb (by grind)⟩
theorem fold_on (A B C : IP) (_hA : A ≠ B) (_hC : C ≠ B) (h : DI B A C = 0) (hd : 0 < (A.1 - B.1) * (C.1 - B.1) + (A.2 - B.2) * (C.2 - B.2)) : OnI A B C ∨ OnI C A B := by
  have hc : (A.1 - B.1) * (C.2 - B.2) = (A.2 - B.2) * (C.1 - B.1) := by unfold DI Geo.D at h; grind
  have e1 : DI B C A = 0 := by unfold DI Geo.D at *; grind
  have e2 : DI A B C = 0 := by unfold DI Geo.D at *; grind
  have key : (Geo.Btw 0 (A.1 - B.1) (C.1 - B.1) ∧ Geo.Btw 0 (A.2 - B.2) (C.2 - B.2)) ∨ (Geo.Btw 0 (C.1 - B.1) (A.1 - B.1) ∧ Geo.Btw 0 (C.2 - B.2) (A.2 - B.2)) := by
    rcases Int.lt_or_le 0 ((A.1 - B.1) * (C.1 - B.1)) with h1 | h1
    · exact btw_two _ _ _ _ hc h1
    · have h2 : 0 < (A.2 - B.2) * (C.2 - B.2) := by omega
      have k := btw_two (A.2 - B.2) (A.1 - B.1) (C.2 - B.2) (C.1 - B.1) (by grind) h2
      rcases k with k | k
      · exact .inl ⟨k.2, k.1⟩
      · exact .inr ⟨k.2, k.1⟩
  rcases key with ⟨k1, k2⟩ | ⟨k1, k2⟩
  · left
    exact ⟨e1, Geo.btw_shift.2 k1, Geo.btw_shift.2 k2⟩
  · right
    refine ⟨e2, ?_, ?_⟩
    · unfold Geo.Btw at *; omega
    · unfold Geo.Btw at *; omega
theorem Fold_toR (B A C : IP) (h : Fold (toR B) (toR A) (toR C)) : DI B A C = 0 ∧ 0 < (A.1 - B.1) * (C.1 - B.1) + (A.2 - B.2) * (C.2 - B.2) := by
  obtain ⟨h1, h2⟩ := h
  rw [D_toR] at h1
  refine ⟨by exact_mod_cast h1, ?_⟩
  rw [← pos_toR]
  simp only [Rat.intCast_add, Rat.intCast_mul, Rat.intCast_sub]
  exact h2
structure RingI (ps : Nat → IP) (n : Nat) : Prop where
  three : 3 ≤ n
  ne : ∀ k, ps (k % n) ≠ ps ((k + 1) % n)
  on1 : ∀ k, ¬ OnI (ps (k % n)) (ps ((k + 1) % n)) (ps ((k + 2) % n))
  on2 : ∀ k, ¬ OnI (ps ((k + 2) % n)) (ps (k % n)) (ps ((k + 1) % n))
  nm : ∀ i t, 2 ≤ t → t + 2 ≤ n → ¬ MtI (ps (i % n)) (ps ((i + 1) % n)) (ps ((i + t) % n)) (ps ((i + t + 1) % n))
theorem toR_inj {a b : IP} (h : toR a = toR b) : a = b := by
  have h1 := congrArg Prod.fst h
  have h2 := congrArg Prod.snd h
  simp only [toR] at h1 h2
  refine Prod.ext ?_ ?_
  · exact Rat.intCast_inj.1 h1
  · exact Rat.intCast_inj.1 h2
theorem RingI.ring {ps : Nat → IP} {n : Nat} (R : RingI ps n) : Ring (fun k => toR (ps (k % n))) n where
  three := R.three
  per := fun k => by simp only [Nat.add_mod_right]
  ne := fun k h => R.ne k (toR_inj h)
  nf := fun k h => by
    obtain ⟨h1, h2⟩ := Fold_toR _ _ _ h
    rcases fold_on _ _ _ (R.ne k) (fun e => R.ne (k + 1) e.symm) h1 h2 with h | h
    · exact R.on1 k h
    · exact R.on2 k h
  nm := fun i t h1 h2 h => R.nm i t h1 h2 ((Mt_toR _ _ _ _).1 h)
def windI (ps : Nat → IP) (n : Nat) (p : IP) : Int := sm (fun j => crI p (ps (j % n)) (ps ((j + 1) % n))) n
theorem windI_one {ps : Nat → IP} {n : Nat} (R : RingI ps n) (p : IP) (off : ∀ j, ¬ OnI p (ps (j % n)) (ps ((j + 1) % n))) : -1 ≤ windI ps n p ∧ windI ps n p ≤ 1 := by
  have k := wind_one R.ring (toR p) (fun j hs hd => by
    apply off j
    rw [D_toR] at hd
    have hd' : DI (ps (j % n)) (ps ((j + 1) % n)) p = 0 := by exact_mod_cast hd
    simp only [span, toR, le_toR, lt_toR] at hs
    have hy : Geo.Btw (ps (j % n)).2 p.2 (ps ((j + 1) % n)).2 := by unfold Geo.Btw; omega
    refine ⟨hd', ?_, hy⟩
    have e : ((ps ((j + 1) % n)).2 - (ps (j % n)).2) * (p.1 - (ps (j % n)).1) = (p.2 - (ps (j % n)).2) * ((ps ((j + 1) % n)).1 - (ps (j % n)).1) := by unfold DI Geo.D at hd'; grind
    exact Geo.btw_shift.2 (Geo.btw_of _ _ _ _ (by omega) (by unfold Geo.Btw at *; omega) e))
  have e : wind (fun k => toR (ps (k % n))) n (toR p) = windI ps n p := by
    unfold wind windI
    exact sm_congr (fun j _ => cr_toR _ _ _)
  rw [e] at k
  exact k
#print axioms windI_one
end Jor
end Go.Proofs.Ytdkaoopkbhaheaa
