package assize

import (
	"fmt"
	"math"
	"math/rand"
	"slices"
	"testing"

	"assize/api"
)

// linksOf: each written as source, target, voters.
func linksOf(list ...[]int) []api.Link {
	var proof []api.Link
	for _, l := range list {
		proof = append(proof, api.Link{Source: l[0], Target: l[1], Voters: slices.Clone(l[2:])})
	}
	return proof
}

// twin: the parents of 1 to 5 behind the root, and of 6 to 10 too: the heights of a block and of that five more are the same.
func twin() []int {
	return []int{0, 0, 1, 2, 3, 4, 0, 6, 7, 8, 9}
}

// proofOf1 and proofOf6: two of three voters of the weight 1 each, so that only the voter 1 is in both.
func proofOf1() []api.Link { return linksOf([]int{0, 1, 0, 1}, []int{1, 2, 0, 1}) }
func proofOf6() []api.Link { return linksOf([]int{0, 6, 1, 2}, []int{6, 7, 1, 2}) }

// judged: what Judge answers, in one text; beside an error, the Verdict must be empty.
func judged(t *testing.T, weights []int, parents []int, one []api.Link, other []api.Link) string {
	t.Helper()
	verdict, e := Judge(weights, parents, one, other)
	if e != api.OK && (len(verdict.Guilty) != 0 || verdict.Weight != 0) {
		t.Errorf("beside the error %d: %v", e, verdict)
	}
	return fmt.Sprint(verdict, " ", e)
}

// refused: both ways round.
func refused(t *testing.T, name string, want api.Errno, weights []int, parents []int, one []api.Link, other []api.Link) {
	t.Helper()
	for range 2 {
		if got := judged(t, weights, parents, one, other); got != fmt.Sprint(api.Verdict{}, " ", want) {
			t.Errorf("%s: %s, want the error %d", name, got, want)
		}
		one, other = other, one
	}
}

func TestP8Example(t *testing.T) {
	weights, parents := []int{1, 1, 1}, []int{0, 0, 0, 1, 2}
	c := court(t, weights, parents[1:]...)
	vote(t, c, votesOf([][3]int{{0, 0, 1}, {1, 0, 1}, {0, 1, 3}, {1, 1, 3}, {1, 0, 2}, {2, 0, 2}, {1, 2, 4}, {2, 2, 4}})...)
	one, _ := c.Proof(1)
	other, _ := c.Proof(2)
	verdict, e := Judge(weights, parents, one, other)
	if got := fmt.Sprint(verdict, e); got != "{[{1 1 {1 0 1} {1 0 2}}] 1} 0" {
		t.Errorf("Judge: %s", got)
	}
	if !slices.Equal(verdict.Guilty, c.Guilty()) {
		t.Errorf("Guilty: %v, the Court's: %v", verdict.Guilty, c.Guilty())
	}
}

func TestP8NoWeights(t *testing.T) {
	for _, weights := range [][]int{
		nil, {}, {0}, {0, 1, 1}, {1, 1, 0}, {1, -1, 1}, {1, 1, 101}, {101, 1, 1}, {math.MaxInt, 1, 1}, {1, 1, math.MinInt}, equals(13), equals(1000),
	} {
		name := fmt.Sprint(weights)
		refused(t, name, api.ErrWeights, weights, twin(), proofOf1(), proofOf6())
		refused(t, name+", blocks that agree", api.ErrWeights, weights, twin(), proofOf1(), proofOf1())
		refused(t, name+", no proof", api.ErrWeights, weights, twin(), proofOf1(), nil)
		refused(t, name+", no tree", api.ErrWeights, weights, nil, nil, nil)
	}
	for _, weights := range [][]int{{1, 1, 1}, {100, 100, 100}, append([]int{1, 100, 1}, equals(9)...)} {
		if _, e := Judge(weights, twin(), proofOf1(), proofOf6()); e != api.OK {
			t.Errorf("%v: %d", weights, e)
		}
	}
}

// with: a list with one number in another's place.
func with(list []int, at int, number int) []int {
	list = slices.Clone(list)
	list[at] = number
	return list
}

func TestP8NoTree(t *testing.T) {
	parents := append(twin(), make([]int, 30)...)
	for name, wrong := range map[string][]int{
		"nil":                     nil,
		"no parents":              {},
		"one too many":            parents,
		"far too many":            make([]int, 100_000),
		"a root below 0":          with(twin(), 0, -1),
		"a root above 0":          with(twin(), 0, 1),
		"a root far off":          with(twin(), 0, math.MaxInt),
		"the root alone, above 0": {1},
		"one below 0":             with(twin(), 3, -1),
		"the first one below 0":   with(twin(), 1, -1),
		"the last one below 0":    with(twin(), 10, -1),
		"far below 0":             with(twin(), 10, math.MinInt),
		"its own parent":          with(twin(), 1, 1),
		"its own parent, last":    with(twin(), 10, 10),
		"a parent behind it":      with(twin(), 2, 3),
		"a parent far off":        with(twin(), 5, math.MaxInt),
		"a parent that is none":   with(twin(), 10, 11),
	} {
		refused(t, name, api.ErrTree, equals(3), wrong, proofOf1(), proofOf6())
		refused(t, name+", blocks that agree", api.ErrTree, equals(3), wrong, proofOf1(), proofOf1())
		refused(t, name+", no proof", api.ErrTree, equals(3), wrong, nil, proofOf6())
	}
	for name, right := range map[string][]int{
		"as many as may be":          parents[:40],
		"the least":                  {0, 0, 1, 0, 0, 0, 0, 6},
		"others right behind":        append(twin(), 10, 11),
		"others behind another root": with(twin(), 5, 0),
	} {
		if got := judged(t, equals(3), right, proofOf1(), proofOf6()); got != "{[{1 1 {1 0 1} {1 0 6}}] 1} 0" {
			t.Errorf("%s: %s", name, got)
		}
	}
	// The root alone is a tree, but there is no link in it.
	refused(t, "the root alone", api.ErrProof, equals(3), []int{0}, proofOf1(), proofOf6())
}

// wrongProofs: none of which is right for three voters of the weight 1, and twin.
func wrongProofs() map[string][]api.Link {
	return map[string][]api.Link{
		"nil":      nil,
		"no links": {},

		"the first source is not the root":            linksOf([]int{1, 2, 0, 1}),
		"the first source is another root's child":    linksOf([]int{6, 7, 0, 1}, []int{7, 8, 0, 1}),
		"the first source is no block":                linksOf([]int{-1, 1, 0, 1}, []int{1, 2, 0, 1}),
		"the first source is far off":                 linksOf([]int{math.MaxInt, 1, 0, 1}, []int{1, 2, 0, 1}),
		"a source is not the target ahead: gap":       linksOf([]int{0, 1, 0, 1}, []int{2, 3, 0, 1}),
		"a source is not the target ahead: back":      linksOf([]int{0, 2, 0, 1}, []int{1, 2, 0, 1}),
		"a source is not the target ahead: branch":    linksOf([]int{0, 1, 0, 1}, []int{6, 7, 0, 1}),
		"a source is not the target ahead: the root":  linksOf([]int{0, 1, 0, 1}, []int{0, 6, 0, 1}),
		"a source is not the target ahead: none":      linksOf([]int{0, 1, 0, 1}, []int{-1, 2, 0, 1}),
		"a source is not the target ahead: the third": linksOf([]int{0, 1, 0, 1}, []int{1, 2, 0, 1}, []int{1, 2, 0, 1}),
		"turned round": linksOf([]int{1, 2, 0, 1}, []int{0, 1, 0, 1}),

		"a target is no block":           linksOf([]int{0, 1, 0, 1}, []int{1, 11, 0, 1}),
		"a target is below 0":            linksOf([]int{0, 1, 0, 1}, []int{1, -1, 0, 1}),
		"a target is far off":            linksOf([]int{0, 1, 0, 1}, []int{1, math.MaxInt, 0, 1}),
		"the first target is no block":   linksOf([]int{0, 11, 0, 1}, []int{11, 12, 0, 1}),
		"a source is its target":         linksOf([]int{0, 1, 0, 1}, []int{1, 1, 0, 1}),
		"a source is its target, ahead":  linksOf([]int{0, 1, 0, 1}, []int{1, 1, 0, 1}, []int{1, 2, 0, 1}),
		"the root is its own target":     linksOf([]int{0, 0, 0, 1}, []int{0, 1, 0, 1}),
		"the root alone":                 linksOf([]int{0, 0, 0, 1}),
		"a source is behind its target":  linksOf([]int{0, 2, 0, 1}, []int{2, 1, 0, 1}, []int{1, 2, 0, 1}),
		"a source is on another branch":  linksOf([]int{0, 1, 0, 1}, []int{1, 7, 0, 1}),
		"a source of a greater number":   linksOf([]int{0, 6, 0, 1}, []int{6, 2, 0, 1}),
		"a source is not ahead, between": linksOf([]int{0, 1, 0, 1}, []int{1, 8, 0, 1}, []int{8, 9, 0, 1}),

		"a voter is not there":              linksOf([]int{0, 1, 0, 1, 3}, []int{1, 2, 0, 1}),
		"a voter is not there, last":        linksOf([]int{0, 1, 0, 1}, []int{1, 2, 0, 1, 3}),
		"a voter is below 0":                linksOf([]int{0, 1, -1, 0, 1}, []int{1, 2, 0, 1}),
		"a voter is far below 0":            linksOf([]int{0, 1, math.MinInt, 0, 1}, []int{1, 2, 0, 1}),
		"a voter is far off":                linksOf([]int{0, 1, 0, 1, math.MaxInt}, []int{1, 2, 0, 1}),
		"a voter twice":                     linksOf([]int{0, 1, 0, 0}, []int{1, 2, 0, 1}),
		"a voter twice, though enough":      linksOf([]int{0, 1, 0, 1, 1}, []int{1, 2, 0, 1}),
		"a voter twice, last":               linksOf([]int{0, 1, 0, 1}, []int{1, 2, 0, 0, 1}),
		"voters who fall":                   linksOf([]int{0, 1, 1, 0}, []int{1, 2, 0, 1}),
		"voters who fall, though enough":    linksOf([]int{0, 1, 0, 1}, []int{1, 2, 0, 2, 1}),
		"voters who fall, all":              linksOf([]int{0, 1, 2, 1, 0}, []int{1, 2, 0, 1}),
		"not enough by the first link":      linksOf([]int{0, 1, 0}, []int{1, 2, 0, 1}),
		"not enough by the last link":       linksOf([]int{0, 1, 0, 1}, []int{1, 2, 1}),
		"not enough by a link between":      linksOf([]int{0, 1, 0, 1}, []int{1, 2, 2}, []int{2, 3, 0, 1}),
		"nobody by the first link":          linksOf([]int{0, 1}, []int{1, 2, 0, 1}),
		"nobody by the last link":           linksOf([]int{0, 1, 0, 1}, []int{1, 2}),
		"the last source is not the parent": linksOf([]int{0, 1, 0, 1}, []int{1, 3, 0, 1}),
		"the only link is not of a parent":  linksOf([]int{0, 2, 0, 1}),
		"none of the links is of a parent":  linksOf([]int{0, 2, 0, 1}, []int{2, 4, 0, 1}),
	}
}

func TestP8ProofsNotRight(t *testing.T) {
	for name, wrong := range wrongProofs() {
		refused(t, name, api.ErrProof, equals(3), twin(), wrong, proofOf6())
		refused(t, name+", the blocks may agree", api.ErrProof, equals(3), twin(), wrong, proofOf1())
		refused(t, name+", both", api.ErrProof, equals(3), twin(), wrong, wrong)
	}
}

// TestP8ManyLinks: the longest proof that a tree has room for is right; more than MaxLinks are not, nor twice the same.
func TestP8ManyLinks(t *testing.T) {
	parents := append([]int{0}, chain(39)...)
	var long []api.Link
	for block := range 39 {
		long = append(long, api.Link{Source: block, Target: block + 1, Voters: []int{0}})
	}
	for count := 1; count <= 39; count++ {
		refused(t, fmt.Sprint(count, " links"), api.ErrAgree, equals(1), parents, long[:count], long)
	}
	for _, more := range []int{1, 2, 3, 1000} {
		many := append(slices.Clone(long), slices.Repeat(long[38:], more)...)
		refused(t, fmt.Sprint(len(many), " links"), api.ErrProof, equals(1), parents, many, long)
	}
	// 0 to 37 lie behind each other, and 38 and 39 behind another child of the root.
	parents[38], parents[39] = 0, 38
	other := linksOf([]int{0, 38, 0}, []int{38, 39, 0})
	for count := 2; count <= 37; count++ {
		if got := judged(t, equals(1), parents, long[:count], other); got != "{[{0 1 {0 0 1} {0 0 38}}] 1} 0" {
			t.Errorf("%d links: %s", count, got)
		}
	}
}

// TestP8EdgesOfEnough: the least that is enough, and one less, in either proof and each link.
func TestP8EdgesOfEnough(t *testing.T) {
	for _, x := range []struct {
		weights []int
		voters  []int
		want    api.Errno
	}{
		{[]int{1}, []int{0}, api.OK},
		{[]int{1}, nil, api.ErrProof},
		{[]int{2, 1}, []int{0}, api.OK},
		{[]int{2, 1}, []int{1}, api.ErrProof},
		{[]int{1, 1}, []int{1}, api.ErrProof},
		{[]int{1, 1, 1}, []int{0, 2}, api.OK},
		{[]int{1, 1, 1}, []int{2}, api.ErrProof},
		{[]int{1, 1, 1, 1}, []int{1, 2, 3}, api.OK},
		{[]int{1, 1, 1, 1}, []int{1, 3}, api.ErrProof},
		{[]int{66, 34}, []int{0}, api.ErrProof},
		{[]int{66, 33}, []int{0}, api.OK},
		{[]int{65, 33}, []int{0}, api.ErrProof},
		{slices.Repeat([]int{100}, 12), chain(8), api.OK},
		{slices.Repeat([]int{100}, 12), chain(7), api.ErrProof},
		{append([]int{99}, slices.Repeat([]int{100}, 11)...), chain(8), api.ErrProof},
	} {
		everybody := chain(len(x.weights))
		for at := range 4 {
			one := []api.Link{{Source: 0, Target: 1, Voters: everybody}, {Source: 1, Target: 2, Voters: everybody}}
			other := []api.Link{{Source: 0, Target: 6, Voters: everybody}, {Source: 6, Target: 7, Voters: everybody}}
			[][]api.Link{one, other}[at/2][at%2].Voters = x.voters
			if _, e := Judge(x.weights, twin(), one, other); e != x.want {
				t.Errorf("%v, by %v in the place %d: %d, want %d", x.weights, x.voters, at, e, x.want)
			}
		}
	}
}

func TestP8BlocksThatAgree(t *testing.T) {
	all := [][]int{
		{0, 1, 0, 1}, {0, 1, 0, 2}, {0, 3, 1, 2}, {1, 2, 0, 1}, {1, 2, 1, 2}, {1, 3, 1, 2}, {2, 3, 0, 2}, {3, 4, 0, 2},
	}
	of1, of2, of3 := linksOf(all[0], all[3]), linksOf(all[1], all[4], all[6]), linksOf(all[2], all[7])
	for name, pair := range map[string][2][]api.Link{
		"the same proof": {of1, of1},
		"the same block": {of1, linksOf(all[1], all[4])},
		"the same block, by votes that nobody may": {of3, linksOf(all[0], all[5], all[7])},
		"the root, twice":                          {linksOf(all[0]), linksOf([]int{0, 6, 1, 2})},
		"the root, and a child":                    {linksOf([]int{0, 6, 1, 2}), of1},
		"the root, and one far behind":             {linksOf([]int{0, 6, 1, 2}), of3},
		"a parent":                                 {of1, of2},
		"one far ahead":                            {of1, of3},
		"around each other":                        {of2, of3},
		"children that do not agree, of one block": {linksOf(all[0], all[3]), linksOf(all[0], []int{1, 11, 0, 1})},
	} {
		refused(t, name, api.ErrAgree, equals(3), append(twin(), 1), pair[0], pair[1])
	}
}

func TestP8Verdict(t *testing.T) {
	for _, x := range []struct {
		name       string
		weights    []int
		one, other []api.Link
		want       string
	}{
		{"double", equals(3), proofOf1(), proofOf6(), "{[{1 1 {1 0 1} {1 0 6}}] 1}"},
		{"double, the other way round", equals(3), proofOf6(), proofOf1(), "{[{1 1 {1 0 6} {1 0 1}}] 1}"},
		{"one voter is all", []int{7}, linksOf([]int{0, 1, 0}, []int{1, 2, 0}), linksOf([]int{0, 6, 0}, []int{6, 7, 0}), "{[{0 1 {0 0 1} {0 0 6}}] 7}"},
		{"around: by one", equals(3), linksOf([]int{0, 3, 0, 1}, []int{3, 4, 0, 1}), linksOf([]int{0, 6, 0, 2}, []int{6, 7, 1, 2}),
			"{[{1 2 {1 0 3} {1 6 7}}] 1}"},
		{"around: by other", equals(3), linksOf([]int{0, 6, 0, 2}, []int{6, 7, 1, 2}), linksOf([]int{0, 3, 0, 1}, []int{3, 4, 0, 1}),
			"{[{1 2 {1 6 7} {1 0 3}}] 1}"},
		{"both kinds, and voters who rise", []int{5, 1, 4}, linksOf([]int{0, 1, 0, 1, 2}, []int{1, 3, 0, 2}, []int{3, 4, 0, 1, 2}), linksOf([]int{0, 6, 0, 2}, []int{6, 10, 0, 1, 2}, []int{10, 15, 0, 2}),
			"{[{0 1 {0 0 1} {0 0 6}} {1 2 {1 3 4} {1 6 10}} {2 1 {2 0 1} {2 0 6}}] 10}"},
		{"the last links alone", equals(3), linksOf([]int{0, 1, 0, 2}, []int{1, 2, 0, 1}), linksOf([]int{0, 6, 0, 1}, []int{6, 7, 1, 2}),
			"{[{0 1 {0 0 1} {0 0 6}} {1 1 {1 1 2} {1 6 7}}] 2}"},
		{"the last links alone, and the first ones", equals(4), linksOf([]int{0, 1, 0, 1, 2}, []int{1, 2, 1, 2, 3}), linksOf([]int{0, 6, 1, 2, 3}, []int{6, 7, 0, 1, 3}),
			"{[{1 1 {1 0 1} {1 0 6}} {2 1 {2 0 1} {2 0 6}} {3 1 {3 1 2} {3 6 7}}] 3}"},
		{"in both proofs, but not by such links", equals(3), linksOf([]int{0, 1, 0, 1}, []int{1, 2, 1, 2}), linksOf([]int{0, 6, 1, 2}, []int{6, 7, 0, 1}),
			"{[{1 1 {1 0 1} {1 0 6}}] 1}"},
		{"the same vote is not two", equals(3), linksOf([]int{0, 1, 0, 1}, []int{1, 2, 0, 1}, []int{2, 3, 0, 1}), linksOf([]int{0, 1, 0, 1}, []int{1, 11, 0, 2}, []int{11, 12, 0, 2}),
			"{[{0 1 {0 1 2} {0 1 11}}] 1}"},
		{"to one block from two", equals(3), linksOf([]int{0, 2, 0, 1}, []int{2, 3, 0, 1}, []int{3, 4, 0, 1}), linksOf([]int{0, 1, 1, 2}, []int{1, 2, 1, 2}, []int{2, 13, 1, 2}, []int{13, 14, 1, 2}),
			"{[{1 1 {1 0 2} {1 1 2}}] 1}"},
		{"Weight", []int{100, 7, 20, 1, 50}, linksOf([]int{0, 1, 0, 1, 3, 4}, []int{1, 2, 0, 1, 2, 3}), linksOf([]int{0, 6, 0, 2, 3, 4}, []int{6, 7, 0, 3, 4}),
			"{[{0 1 {0 0 1} {0 0 6}} {3 1 {3 0 1} {3 0 6}} {4 1 {4 0 1} {4 0 6}}] 151}"},
	} {
		// Two more branches, 11 and 12 behind 1, 13 and 14 behind 2; and one more block behind the last of twin.
		parents := append(twin(), 1, 11, 2, 13, 10)
		for range 2 {
			if got := judged(t, x.weights, parents, x.one, x.other); got != x.want+" 0" {
				t.Errorf("%s: %s, want %s", x.name, got, x.want)
			}
		}
	}
}

// TestP8WhichPair: where a voter has several, that of the first link of one, and then of the first of other, whatever the kind.
func TestP8WhichPair(t *testing.T) {
	step := func(blocks ...int) []api.Link {
		var proof []api.Link
		for i, block := range blocks[1:] {
			proof = append(proof, api.Link{Source: blocks[i], Target: block, Voters: []int{0}})
		}
		return proof
	}
	for _, x := range []struct {
		name       string
		one, other []api.Link
		want       string
	}{
		{"all are double", step(0, 1, 2, 3, 4), step(0, 6, 7, 8, 9), "{0 1 {0 0 1} {0 0 6}}"},
		{"around several of other", step(0, 4, 5), step(0, 6, 7, 8), "{0 2 {0 0 4} {0 6 7}}"},
		{"around several of other, and double", step(0, 4, 5), step(0, 6, 7, 8, 9, 10), "{0 2 {0 0 4} {0 6 7}}"},
		{"several of one in another", step(0, 1, 2, 3), step(0, 9, 10), "{0 2 {0 1 2} {0 0 9}}"},
		{"double, and then around", step(0, 1, 2, 3, 4), step(0, 6, 9, 10), "{0 1 {0 0 1} {0 0 6}}"},
		{"around, and then double", step(0, 2, 3), step(0, 6, 7, 8), "{0 1 {0 0 2} {0 6 7}}"},
		{"not the first of one", step(0, 1, 3, 4), step(0, 7, 8), "{0 1 {0 1 3} {0 7 8}}"},
		{"not the first of other", step(0, 3, 4, 5), step(0, 6, 8, 9), "{0 1 {0 0 3} {0 6 8}}"},
	} {
		if got := judged(t, equals(1), twin(), x.one, x.other); got != "{["+x.want+"] 1} 0" {
			t.Errorf("%s: %s, want %s", x.name, got, x.want)
		}
	}
}

// aheadByTheWords: for any numbers.
func aheadByTheWords(parents []int, block int, other int) bool {
	if other < 1 || other >= len(parents) {
		return false
	}
	return parents[other] == block || aheadByTheWords(parents, block, parents[other])
}

func heightByTheWords(parents []int, block int) int {
	if block == 0 {
		return 0
	}
	return 1 + heightByTheWords(parents, parents[block])
}

// nobodyMayByTheWords: the kind of two votes of one voter, 0 if there is none.
func nobodyMayByTheWords(parents []int, one api.Vote, other api.Vote) int {
	as, at := heightByTheWords(parents, one.Source), heightByTheWords(parents, one.Target)
	bs, bt := heightByTheWords(parents, other.Source), heightByTheWords(parents, other.Target)
	switch {
	case one == other:
		return 0
	case at == bt:
		return 1
	case as < bs && at > bt, bs < as && bt > at:
		return 2
	}
	return 0
}

// isProofByTheWords: for right weights and parents.
func isProofByTheWords(weights []int, parents []int, proof []api.Link) bool {
	all := 0
	for _, w := range weights {
		all += w
	}
	for i, link := range proof {
		if i == 0 && link.Source != 0 || i > 0 && link.Source != proof[i-1].Target {
			return false
		}
		sum := 0
		for j, voter := range link.Voters {
			if voter < 0 || voter >= len(weights) || j > 0 && voter <= link.Voters[j-1] {
				return false
			}
			sum += weights[voter]
		}
		last := i == len(proof)-1
		if !aheadByTheWords(parents, link.Source, link.Target) || 3*sum < 2*all || last && parents[link.Target] != link.Source {
			return false
		}
	}
	return len(proof) >= 1 && len(proof) <= 40
}

// judgeByTheWords: for right weights and parents: all pairs of votes, of which the first by the places of their links is taken.
func judgeByTheWords(weights []int, parents []int, one []api.Link, other []api.Link) (api.Verdict, api.Errno) {
	if !isProofByTheWords(weights, parents, one) || !isProofByTheWords(weights, parents, other) {
		return api.Verdict{}, api.ErrProof
	}
	a, b := one[len(one)-1].Source, other[len(other)-1].Source
	if a == b || aheadByTheWords(parents, a, b) || aheadByTheWords(parents, b, a) {
		return api.Verdict{}, api.ErrAgree
	}
	var verdict api.Verdict
	for voter, weight := range weights {
		var found api.Guilt
		for i := len(one) - 1; i >= 0; i-- {
			for j := len(other) - 1; j >= 0; j-- {
				first := api.Vote{Voter: voter, Source: one[i].Source, Target: one[i].Target}
				second := api.Vote{Voter: voter, Source: other[j].Source, Target: other[j].Target}
				kind := nobodyMayByTheWords(parents, first, second)
				if kind != 0 && slices.Contains(one[i].Voters, voter) && slices.Contains(other[j].Voters, voter) {
					found = api.Guilt{Voter: voter, Kind: kind, One: first, Other: second}
				}
			}
		}
		if found.Kind != 0 {
			verdict.Guilty = append(verdict.Guilty, found)
			verdict.Weight += weight
		}
	}
	return verdict, api.OK
}

// drawnVoters: enough, and often no more than that.
func drawnVoters(r *rand.Rand, weights []int) []int {
	all := 0
	for _, w := range weights {
		all += w
	}
	voters, sum := chain(len(weights)), all
	for _, voter := range r.Perm(len(weights)) {
		if 3*(sum-weights[voter]) >= 2*all && r.Intn(8) > 0 {
			voters = slices.DeleteFunc(voters, func(v int) bool { return v == voter })
			sum -= weights[voter]
		}
	}
	return voters
}

// drawnProof: a right one, of any block that has a child.
func drawnProof(r *rand.Rand, weights []int, parents []int) []api.Link {
	target := 1 + max(r.Intn(len(parents)-1), r.Intn(len(parents)-1))
	source := parents[target]
	var proof []api.Link
	for {
		proof = append(proof, api.Link{Source: source, Target: target, Voters: drawnVoters(r, weights)})
		if source == 0 {
			slices.Reverse(proof)
			return proof
		}
		target, source = source, parents[source]
		for source != 0 && r.Intn(3) > 0 {
			source = parents[source]
		}
	}
}

// drawnSuit: weights, parents and two right proofs.
func drawnSuit(r *rand.Rand) ([]int, []int, []api.Link, []api.Link) {
	weights := make([]int, 1+r.Intn(6))
	for i := range weights {
		weights[i] = 1 + r.Intn(5)
	}
	parents := []int{0, 0, 0}
	// Mostly two branches that grow by turns, so that blocks far from the root do not agree.
	for range 3 + r.Intn(10) {
		n := len(parents)
		parents = append(parents, []int{n - 2, n - 2, n - 2, n - 1, r.Intn(n)}[r.Intn(5)])
	}
	return weights, parents, drawnProof(r, weights, parents), drawnProof(r, weights, parents)
}

// spoilLink: one number of one link becomes another one.
func spoilLink(r *rand.Rand, proof []api.Link) {
	link := &proof[r.Intn(len(proof))]
	switch r.Intn(4) {
	case 0:
		link.Source += r.Intn(3) - 1
	case 1:
		link.Target += r.Intn(3) - 1
	case 2:
		link.Voters[r.Intn(len(link.Voters))] += r.Intn(3) - 1
	default:
		link.Voters = link.Voters[1:]
	}
}

func TestP8AgainstTheWords(t *testing.T) {
	r := rand.New(rand.NewSource(8))
	answers := map[api.Errno]int{}
	var kinds [3]int
	for range 20000 {
		weights, parents, one, other := drawnSuit(r)
		if r.Intn(3) == 0 {
			spoilLink(r, [][]api.Link{one, other}[r.Intn(2)])
		}
		got, e := Judge(weights, parents, one, other)
		want, error := judgeByTheWords(weights, parents, one, other)
		if e != error || got.Weight != want.Weight || !slices.Equal(got.Guilty, want.Guilty) {
			t.Fatalf("%v, %d, want %v, %d: weights %v, parents %v, proofs %v and %v", got, e, want, error, weights, parents, one, other)
		}
		answers[e]++
		for _, g := range got.Guilty {
			kinds[g.Kind]++
		}
	}
	if answers[api.OK] < 1000 || answers[api.ErrProof] < 1000 || answers[api.ErrAgree] < 1000 || kinds[1] < 500 || kinds[2] < 500 {
		t.Errorf("too few to tell apart: answers %v, kinds %v", answers, kinds)
	}
}
