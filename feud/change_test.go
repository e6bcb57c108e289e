package feud_test

import (
	"slices"
	"testing"

	"verditer/api"
	"verditer/feud"
)

func TestDrop(t *testing.T) { // P3.5
	s := shop(4, [2]int{2, 3}, [2]int{0, 1}, [2]int{1, 3})
	for k, want := range []api.Shop{
		shop(4, [2]int{0, 1}, [2]int{1, 3}),
		shop(4, [2]int{2, 3}, [2]int{1, 3}),
		shop(4, [2]int{2, 3}, [2]int{0, 1}),
	} {
		if r, e := feud.Drop(s, k); !isSame(r, want) || e != api.OK {
			t.Error(k, r, e)
		}
	}
	if r, e := feud.Drop(shop(2, [2]int{0, 1}), 0); !isSame(r, shop(2)) || e != api.OK {
		t.Error(r, e)
	}
	for _, s := range someShops() {
		for k := range s.Feuds {
			want := api.Shop{Paints: s.Paints, Feuds: slices.Delete(slices.Clone(s.Feuds), k, k+1)}
			if r, e := feud.Drop(s, k); !isSame(r, want) || e != api.OK {
				t.Error(s, k, r, e)
			}
		}
	}
}

func TestMerge(t *testing.T) { // P3.5
	for i, c := range []struct {
		s    api.Shop
		k    int
		want api.Shop
	}{
		{shop(2, [2]int{0, 1}), 0, shop(1)},
		{all(3), 0, shop(2, [2]int{0, 1})},
		{all(7), 20, all(6)},
		{ring(4, 4), 1, shop(3, [2]int{0, 1}, [2]int{0, 2}, [2]int{1, 2})},
		{shop(5, [2]int{1, 3}, [2]int{3, 4}, [2]int{2, 3}, [2]int{0, 4}), 0, shop(4, [2]int{0, 3}, [2]int{1, 2}, [2]int{1, 3})},
		{shop(5, [2]int{2, 4}, [2]int{0, 1}, [2]int{0, 4}, [2]int{0, 2}, [2]int{3, 4}), 0, shop(4, [2]int{0, 1}, [2]int{0, 2}, [2]int{2, 3})},
	} {
		if r, e := feud.Merge(c.s, c.k); !isSame(r, c.want) || e != api.OK {
			t.Error(i, r, e)
		}
	}
	for _, s := range someShops() {
		for k := range s.Feuds {
			if r, e := feud.Merge(s, k); !isSame(r, mergeOf(s, k)) || e != api.OK {
				t.Error(s, k, r, e)
			}
		}
	}
}

// mergeOf is Merge, found from the new numbers back: each stands for a paint, or for both of the feud.
func mergeOf(s api.Shop, k int) api.Shop {
	kept, gone := s.Feuds[k].A, s.Feuds[k].B
	were := func(paint int) []int {
		switch {
		case paint == kept:
			return []int{kept, gone}
		case paint < gone:
			return []int{paint}
		}
		return []int{paint + 1}
	}
	return shopWhere(s.Paints-1, func(a, b int) bool {
		return slices.ContainsFunc(were(a), func(x int) bool {
			return slices.ContainsFunc(were(b), func(y int) bool { return isFeud(s, x, y) })
		})
	})
}
