package codes

import (
	"container/heap"
	"math/rand"
	"slices"
	"sort"
	"testing"
)

// taken tells how many bits symbols take that come so often.
func taken(counts, lengths []int) int {
	all := 0
	for symbol, count := range counts {
		all += count * lengths[symbol]
	}
	return all
}

// ints is a heap: the least number is its first one.
type ints struct{ sort.IntSlice }

func (h *ints) Push(x any) { h.IntSlice = append(h.IntSlice, x.(int)) }

func (h *ints) Pop() any {
	end := len(h.IntSlice) - 1
	last := h.IntSlice[end]
	h.IntSlice = h.IntSlice[:end]
	return last
}

// fewest is how few bits symbols can take with codes of any length: the two
// that come least often are taken together, again and again.
func fewest(counts []int) int {
	h := &ints{}
	for _, count := range counts {
		if count > 0 {
			heap.Push(h, count)
		}
	}
	all := 0
	for h.Len() > 1 {
		both := heap.Pop(h).(int) + heap.Pop(h).(int)
		all += both
		heap.Push(h, both)
	}
	return all
}

// holdsBounds asks of lengths what they must be.
func holdsBounds(t *testing.T, counts, lengths []int, most int) {
	t.Helper()
	if len(lengths) != len(counts) || !mayBe(lengths) || slices.Max(lengths) > most {
		t.Errorf("P9: lengths %v for %v, at most %d", lengths, counts, most)
	}
	for symbol, count := range counts {
		if (count > 0) != (lengths[symbol] > 0) {
			t.Errorf("P9: symbol %d comes %d times and has length %d", symbol, count, lengths[symbol])
		}
	}
}

func TestLengthsAreTheBest(t *testing.T) {
	source := rand.New(rand.NewSource(10))
	for range 300 {
		counts := make([]int, 2+source.Intn(100))
		for i := range counts {
			counts[i] = source.Intn(20) * source.Intn(20)
		}
		counts[0], counts[len(counts)-1] = 1, 2
		lengths := Lengths(counts, 15)
		holdsBounds(t, counts, lengths, 15)
		if got, want := taken(counts, lengths), fewest(counts); got != want {
			t.Errorf("P9: %v take %d bits, not %d", counts, got, want)
		}
	}
}

// Counts of which each is as many as the two ahead would have longer and longer codes.
func TestLengthsKeepTheirBound(t *testing.T) {
	counts := []int{1, 1}
	for len(counts) < 40 {
		counts = append(counts, counts[len(counts)-1]+counts[len(counts)-2])
	}
	for n := 2; n <= 40; n++ {
		for most := 6; most <= 15; most++ {
			holdsBounds(t, counts[:n], Lengths(counts[:n], most), most)
		}
	}
	for _, c := range []struct {
		counts []int
		most   int
		want   []int
	}{
		{[]int{1, 1, 2, 4}, 2, []int{2, 2, 2, 2}},
		{[]int{1, 1, 2, 4}, 3, []int{3, 3, 2, 1}},
		{[]int{1, 1, 2, 4, 8}, 3, []int{3, 3, 3, 3, 1}},
		{[]int{1, 1, 2, 4, 8}, 4, []int{4, 4, 3, 2, 1}},
	} {
		if got := Lengths(c.counts, c.most); !slices.Equal(got, c.want) {
			t.Errorf("P9: lengths %v for %v, at most %d, want %v", got, c.counts, c.most, c.want)
		}
	}
}

func TestLengthsOfFewSymbols(t *testing.T) {
	for _, c := range []struct{ counts, want []int }{
		{[]int{}, []int{}},
		{[]int{0, 0}, []int{0, 0}},
		{[]int{0, 7, 0}, []int{0, 1, 0}},
		{[]int{9, 0, 1}, []int{1, 0, 1}},
	} {
		if got := Lengths(c.counts, 15); !slices.Equal(got, c.want) {
			t.Errorf("P9: lengths %v for %v, want %v", got, c.counts, c.want)
		}
	}
}
