// Package tree: blocks, each behind its parent, up to the root.
package tree

import (
	"iter"
	"slices"

	"assize/api"
)

// Root is the block that has no parent.
const Root = 0

// Tree has blocks that are numbered from the root on. Made by no call of this package, it has none.
type Tree struct {
	// A parent has a lesser number than its block, so every walk up ends at the root, whose place here holds the root itself.
	parents []int
}

// Planted is a Tree with the root alone.
func Planted() Tree {
	return Tree{parents: []int{Root}}
}

// Right tells if these may be the parents of blocks, from the root on, in whose place the root itself stands.
func Right(parents []int) bool {
	if len(parents) < 1 || len(parents) > api.MaxBlocks || parents[Root] != Root {
		return false
	}
	for block := 1; block < len(parents); block++ {
		if parents[block] < 0 || parents[block] >= block {
			return false
		}
	}
	return true
}

// Grown is a Tree whose blocks have these parents, which are right.
func Grown(parents []int) Tree {
	return Tree{parents: slices.Clone(parents)}
}

// Count tells how many blocks there are.
func (t *Tree) Count() int {
	return len(t.parents)
}

// Has tells if there is a block of this number.
func (t *Tree) Has(block int) bool {
	return 0 <= block && block < len(t.parents)
}

// Lay puts one more block behind a parent that the Tree has, and tells its number.
func (t *Tree) Lay(parent int) int {
	t.parents = append(t.parents, parent)
	return len(t.parents) - 1
}

// Keep leaves the first count blocks, and takes away those that were laid after them.
func (t *Tree) Keep(count int) {
	t.parents = t.parents[:count]
}

// Ahead gives those ahead of a block: its parent first, the root last.
func (t *Tree) Ahead(block int) iter.Seq[int] {
	return func(yield func(int) bool) {
		for at := block; at != Root && t.Has(at); {
			at = t.parents[at]
			if !yield(at) {
				return
			}
		}
	}
}

// Height tells how many blocks are ahead of a block.
func (t *Tree) Height(block int) int {
	height := 0
	for range t.Ahead(block) {
		height++
	}
	return height
}

// IsAhead tells if a block is ahead of another one.
func (t *Tree) IsAhead(block int, other int) bool {
	for ahead := range t.Ahead(other) {
		if ahead == block {
			return true
		}
	}
	return false
}

// Agree tells if two blocks are the same, or one is ahead of the other.
func (t *Tree) Agree(one int, other int) bool {
	return one == other || t.IsAhead(one, other) || t.IsAhead(other, one)
}

// IsParent tells if a block is the parent of another one.
func (t *Tree) IsParent(block int, other int) bool {
	return other != Root && t.Has(other) && t.parents[other] == block
}
