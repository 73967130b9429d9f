package trip

import (
	"slices"
	"testing"
)

// The orders come in lexicographic order, share no memory, and end when no more are asked for.
func TestP87Orders(t *testing.T) {
	var all [][]int
	for order := range orders(4) {
		all = append(all, order)
	}
	if len(all) != 24 || !slices.IsSortedFunc(all, slices.Compare[[]int]) {
		t.Errorf("all orders: %v", all)
	}
	for k, order := range all {
		if sorted := slices.Sorted(slices.Values(order)); !slices.Equal(sorted, []int{0, 1, 2, 3}) || k > 0 && slices.Equal(order, all[k-1]) {
			t.Errorf("the order %d: %v", k, order)
		}
	}
	for n := range 24 {
		seen := 0
		for range orders(4) {
			if seen++; seen > n {
				break
			}
		}
		if seen != n+1 {
			t.Errorf("%d orders instead of %d", seen, n+1)
		}
	}
	for order := range orders(0) {
		if len(order) != 0 {
			t.Errorf("the order of nothing: %v", order)
		}
	}
}
