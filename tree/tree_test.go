package tree

import (
	"math"
	"slices"
	"testing"
)

// grown: a Tree with blocks of these parents, from the first one behind the root on.
func grown(parents ...int) *Tree {
	t := Planted()
	for _, parent := range parents {
		t.Lay(parent)
	}
	return &t
}

func TestLayAndKeep(t *testing.T) {
	blocks := grown()
	if blocks.Count() != 1 || !blocks.Has(0) || blocks.Has(1) || blocks.Has(-1) {
		t.Fatal("Planted: not the root alone")
	}
	if n := blocks.Lay(0); n != 1 {
		t.Errorf("Lay: %d, want 1", n)
	}
	if n := blocks.Lay(1); n != 2 || blocks.Count() != 3 {
		t.Errorf("Lay: %d, want 2", n)
	}
	blocks.Keep(2)
	if blocks.Count() != 2 || blocks.Has(2) {
		t.Error("Keep(2) left more than two blocks")
	}
	if n := blocks.Lay(0); n != 2 || !blocks.IsParent(0, 2) || blocks.IsParent(1, 2) {
		t.Error("a block that was taken away is still there")
	}
}

func TestRight(t *testing.T) {
	line := make([]int, 41)
	for block := range 40 {
		line[block+1] = block
	}
	for _, x := range []struct {
		parents []int
		want    bool
	}{
		{nil, false},
		{[]int{}, false},
		{[]int{0}, true},
		{[]int{1}, false},
		{[]int{-1}, false},
		{[]int{1, 0}, false},
		{[]int{0, 0}, true},
		{[]int{0, 1}, false},
		{[]int{0, -1}, false},
		{[]int{0, 2, 0}, false},
		{[]int{0, 0, 1}, true},
		{[]int{0, 0, 2}, false},
		{[]int{0, 0, 3}, false},
		{[]int{0, 0, -1, 0}, false},
		{[]int{0, 0, math.MinInt}, false},
		{[]int{0, 0, math.MaxInt}, false},
		{line[:40], true},
		{line, false},
		{make([]int, 40), true},
		{make([]int, 41), false},
	} {
		if got := Right(x.parents); got != x.want {
			t.Errorf("Right(%v): %v", x.parents, got)
		}
	}
}

func TestGrown(t *testing.T) {
	behind := []int{0, 0, 0, 1, 2, 3, 77, 78}
	blocks := Grown(behind[:6])
	for block, parent := range []int{0, 0, 1, 2, 3} {
		if !blocks.IsParent(parent, block+1) {
			t.Errorf("%d is not the parent of %d", parent, block+1)
		}
	}
	if n := blocks.Lay(5); n != 6 || blocks.Height(6) != 4 {
		t.Errorf("Lay: %d, want 6", n)
	}
	if !slices.Equal(behind, []int{0, 0, 0, 1, 2, 3, 77, 78}) {
		t.Errorf("what was handed in was written into: %v", behind)
	}
	behind[5] = 4
	if !blocks.IsParent(3, 5) {
		t.Error("what was handed in was kept")
	}
}

func TestAgree(t *testing.T) {
	blocks := grown(0, 0, 1, 2, 3)
	agree := [][]int{{0, 1, 2, 3, 4, 5}, {0, 1, 3, 5}, {0, 2, 4}, {0, 1, 3, 5}, {0, 2, 4}, {0, 1, 3, 5}}
	for one, want := range agree {
		for other := range agree {
			if got := blocks.Agree(one, other); got != slices.Contains(want, other) {
				t.Errorf("Agree(%d, %d): %v", one, other, got)
			}
		}
	}
}

func TestAhead(t *testing.T) {
	blocks := grown(0, 0, 1, 2, 3)
	want := [][]int{nil, {0}, {0}, {1, 0}, {2, 0}, {3, 1, 0}}
	for block := range want {
		ahead := blocks.Ahead(block)
		for range 2 {
			if got := slices.Collect(ahead); !slices.Equal(got, want[block]) {
				t.Errorf("Ahead(%d): %v, want %v", block, got, want[block])
			}
		}
		for other := range want {
			if got := blocks.IsAhead(other, block); got != slices.Contains(want[block], other) {
				t.Errorf("IsAhead(%d, %d): %v", other, block, got)
			}
			if got := blocks.IsParent(other, block); got != (block > 0 && want[block][0] == other) {
				t.Errorf("IsParent(%d, %d): %v", other, block, got)
			}
		}
	}
}

func TestHeight(t *testing.T) {
	blocks := grown(0, 0, 1, 2, 3, 0)
	for block, want := range []int{0, 1, 1, 2, 2, 3, 1} {
		if got := blocks.Height(block); got != want {
			t.Errorf("Height(%d): %d, want %d", block, got, want)
		}
	}
	line := grown()
	for block := range 39 {
		line.Lay(block)
		if got := line.Height(block + 1); got != block+1 {
			t.Errorf("Height(%d) of a line: %d", block+1, got)
		}
	}
}

func TestAheadLeftEarly(t *testing.T) {
	blocks := grown(0, 1, 2, 3)
	var got []int
	for block := range blocks.Ahead(4) {
		got = append(got, block)
		if block == 2 {
			break
		}
	}
	if !slices.Equal(got, []int{3, 2}) {
		t.Errorf("left at 2: %v", got)
	}
}

func TestNoSuchBlock(t *testing.T) {
	var none Tree
	for _, blocks := range []*Tree{&none, grown(0, 1)} {
		for _, block := range []int{math.MinInt, -1, 3, math.MaxInt} {
			if blocks.Has(block) || blocks.IsAhead(0, block) || blocks.IsAhead(block, 2) || blocks.IsParent(0, block) || blocks.Height(block) != 0 {
				t.Errorf("%d is no block", block)
			}
		}
	}
	if none.Count() != 0 || none.Has(0) {
		t.Error("a Tree that nobody made has a root")
	}
}
