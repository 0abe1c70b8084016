package assize

import (
	"fmt"
	"slices"
	"sync"
	"testing"
	"time"

	"assize/api"
)

func TestP1NoCallPanics(t *testing.T) {
	lists := [][]int{nil, {}, oddNumbers, equals(12), equals(1_000_000)}
	for _, n := range oddNumbers {
		lists = append(lists, []int{n}, []int{1, n})
	}
	for _, l := range lists {
		New(l)
	}
	courts := notMade()
	courts["new"] = court(t, equals(2))
	courts["small"] = court(t, equals(2), 0, 1)
	courts["full"] = full(t)
	for _, c := range courts {
		askOddly(c)
	}
}

// askOddly: each call of a Court, at all odd numbers.
func askOddly(c *Court) {
	for _, a := range oddNumbers {
		for _, b := range oddNumbers {
			for _, d := range oddNumbers {
				c.Vote(a, b, d)
			}
		}
		c.Block(a)
		c.Proof(a)
	}
	goThrough(c.All())
	c.Just()
	c.Final()
	c.Guilty()
}

// TestP1JudgeOddLists: each list in each place, the others right or odd too.
func TestP1JudgeOddLists(t *testing.T) {
	const long = 1_000_000
	lists := [][]int{nil, {}, {0}, {1}, oddNumbers, equals(3), equals(12), twin(), equals(long), make([]int, long), chain(long)}
	proofs := [][]api.Link{
		nil, {}, {{}}, {{}, {}}, proofOf1(), proofOf6(),
		{{Source: -1, Target: 99, Voters: oddNumbers}},
		{{Source: 0, Target: 1, Voters: oddNumbers}},
		{{Source: 0, Target: 1, Voters: chain(long)}},
		{{Source: 0, Target: 1, Voters: equals(long)}, {Source: 1, Target: 2, Voters: make([]int, long)}},
		make([]api.Link, long),
		slices.Repeat(proofOf1(), long/2),
	}
	for _, weights := range lists {
		for _, parents := range lists {
			for _, one := range proofs {
				for _, other := range proofs {
					judged(t, weights, parents, one, other)
				}
			}
		}
	}
}

// TestP1JudgeOddNumbers: each number of a right suit becomes each odd one.
func TestP1JudgeOddNumbers(t *testing.T) {
	for _, odd := range oddNumbers {
		for at := range 3 {
			judged(t, with(equals(3), at, odd), twin(), proofOf1(), proofOf6())
		}
		for at := range twin() {
			judged(t, equals(3), with(twin(), at, odd), proofOf1(), proofOf6())
		}
		for at := range 2 {
			for field := range 4 {
				for _, wrong := range [][]api.Link{proofOf1(), proofOf6()} {
					link := &wrong[at]
					*[]*int{&link.Source, &link.Target, &link.Voters[0], &link.Voters[1]}[field] = odd
					got, e := Judge(equals(3), twin(), wrong, proofOf6())
					want, error := judgeByTheWords(equals(3), twin(), wrong, proofOf6())
					if e != error || got.Weight != want.Weight || !slices.Equal(got.Guilty, want.Guilty) {
						t.Errorf("%v: %v, %d, want %v, %d", wrong, got, e, want, error)
					}
				}
			}
		}
	}
}

// TestP1JudgeFirstNamedError: each mixture of what may be wrong.
func TestP1JudgeFirstNamedError(t *testing.T) {
	wrong := linksOf([]int{0, 1, 0, 1}, []int{1, 3, 0, 1})
	for _, weights := range [][]int{equals(3), {1, 1, 0}} {
		for _, parents := range [][]int{twin(), with(twin(), 10, 10)} {
			for _, pair := range []struct {
				one, other []api.Link
				want       api.Errno
			}{
				{proofOf1(), proofOf6(), api.OK},
				{proofOf1(), proofOf1(), api.ErrAgree},
				{wrong, proofOf6(), api.ErrProof},
				{proofOf6(), wrong, api.ErrProof},
				// Their last sources are the same block: were they right, they would agree.
				{wrong, proofOf1(), api.ErrProof},
				{proofOf1(), wrong, api.ErrProof},
				{wrong, wrong, api.ErrProof},
				{nil, nil, api.ErrProof},
			} {
				want := pair.want
				if parents[10] == 10 {
					want = api.ErrTree
				}
				if weights[2] == 0 {
					want = api.ErrWeights
				}
				if want != api.OK {
					refused(t, "mixed", want, weights, parents, pair.one, pair.other)
				} else if _, e := Judge(weights, parents, pair.one, pair.other); e != want {
					t.Errorf("nothing is wrong: %d", e)
				}
			}
		}
	}
}

// TestP1JudgeAtATime: several goroutines may hand in the same lists, and each is answered as if it came alone.
func TestP1JudgeAtATime(t *testing.T) {
	weights, parents, one, other := equals(3), twin(), proofOf1(), proofOf6()
	var wg sync.WaitGroup
	for range 8 {
		wg.Go(func() {
			for range 200 {
				verdict, e := Judge(weights, parents, one, other)
				if got := fmt.Sprint(verdict, e); got != "{[{1 1 {1 0 1} {1 0 6}}] 1} 0" {
					t.Errorf("Judge: %s", got)
				}
			}
		})
	}
	wg.Wait()
}

func TestP1FirstNamedError(t *testing.T) {
	c := full(t)
	for _, x := range []struct {
		vote api.Vote
		want api.Errno
	}{
		{api.Vote{Voter: 12, Source: -1, Target: 40}, api.ErrVoter},
		{api.Vote{Voter: -1, Source: 1, Target: 1}, api.ErrVoter},
		{api.Vote{Voter: 0, Source: 40, Target: 40}, api.ErrBlock},
		{api.Vote{Voter: 0, Source: 39, Target: 40}, api.ErrBlock},
		{api.Vote{Voter: 0, Source: 40, Target: 1}, api.ErrBlock},
		{api.Vote{Voter: 0, Source: 1, Target: 0}, api.ErrLink},
		{api.Vote{Voter: 0, Source: 0, Target: 1}, api.ErrTwice},
		{api.Vote{Voter: 0, Source: 0, Target: 39}, api.ErrMany},
	} {
		if e := c.Vote(x.vote.Voter, x.vote.Source, x.vote.Target); e != x.want {
			t.Errorf("Vote(%v): %d, want %d", x.vote, e, x.want)
		}
	}
	for _, block := range []int{-1, 40, 41} {
		if _, e := c.Block(block); e != api.ErrBlock {
			t.Errorf("Block(%d) of a full tree: %d", block, e)
		}
		// What is no block is not final either.
		if _, e := c.Proof(block); e != api.ErrBlock {
			t.Errorf("Proof(%d) of a full tree: %d", block, e)
		}
	}
}

func TestP1ErrorsChangeNothing(t *testing.T) {
	small := court(t, []int{2, 1}, 0, 1, 0)
	vote(t, small, api.Vote{Voter: 0, Source: 0, Target: 1}, api.Vote{Voter: 1, Source: 0, Target: 2})
	for name, c := range map[string]*Court{"small": small, "full": full(t)} {
		before := told(c)
		errors := 0
		for _, a := range []int{-1, 0, 12, 99} {
			for _, b := range []int{-1, 0, 1, 2, 40} {
				if e := c.Vote(a, b, 0); e == api.OK {
					t.Errorf("%s: a vote for the root was given", name)
				}
				errors++
			}
		}
		for _, parent := range []int{-1, 40, 99} {
			if n, e := c.Block(parent); n != 0 || e != api.ErrBlock {
				t.Errorf("%s: Block(%d): %d, %d", name, parent, n, e)
			}
			errors++
			if l, e := c.Proof(parent); len(l) != 0 || e != api.ErrBlock {
				t.Errorf("%s: Proof(%d): %v, %d", name, parent, l, e)
			}
			errors++
		}
		if l, e := c.Proof(3); len(l) != 0 || e != api.ErrNone {
			t.Errorf("%s: Proof(3): %v, %d", name, l, e)
		}
		errors++
		if after := told(c); after != before {
			t.Errorf("%s: %d errors changed it:\n%s\n%s", name, errors, before, after)
		}
	}
	if n, e := small.Block(3); n != 4 || e != api.OK {
		t.Errorf("the block after those that were refused: %d, %d", n, e)
	}
}

// TestP1TooManyIsTakenBack: what one too many has changed is seen nowhere, however often it is asked for.
func TestP1TooManyIsTakenBack(t *testing.T) {
	c := full(t)
	before := told(c)
	for range 3 {
		if n, e := c.Block(39); n != 0 || e != api.ErrMany {
			t.Errorf("one block too many: %d, %d", n, e)
		}
		if n, e := c.Block(40); n != 0 || e != api.ErrBlock {
			t.Errorf("behind a block that was refused: %d, %d", n, e)
		}
		if e := c.Vote(0, 0, 40); e != api.ErrBlock {
			t.Errorf("a vote for a block that was refused: %d", e)
		}
		if e := c.Vote(3, 38, 39); e != api.ErrMany {
			t.Errorf("one vote too many: %d", e)
		}
	}
	if after := told(c); after != before {
		t.Errorf("changed:\n%s\n%s", before, after)
	}
}

func TestP1NewAnswersNilBesideAnError(t *testing.T) {
	if c, e := New(nil); c != nil || e == api.OK {
		t.Errorf("New(nil): %v, %d", c, e)
	}
}

func TestP1CourtsThatNewDidNotMake(t *testing.T) {
	for name, c := range notMade() {
		for _, a := range oddNumbers {
			if n, e := c.Block(a); n != 0 || e != api.ErrClosed {
				t.Errorf("%s: Block(%d): %d, %d", name, a, n, e)
			}
			if e := c.Vote(a, 0, 1); e != api.ErrClosed {
				t.Errorf("%s: Vote(%d, 0, 1): %d", name, a, e)
			}
			if l, e := c.Proof(a); len(l) != 0 || e != api.ErrClosed {
				t.Errorf("%s: Proof(%d): %v, %d", name, a, l, e)
			}
		}
		if len(c.Just()) != 0 || len(c.Final()) != 0 || len(c.Guilty()) != 0 {
			t.Errorf("%s: tells %v, %v, %v", name, c.Just(), c.Final(), c.Guilty())
		}
		all := c.All()
		if all == nil {
			t.Fatalf("%s: All answers no function", name)
		}
		for v := range all {
			t.Errorf("%s: All gives %v", name, v)
		}
	}
}

// TestP1VotesAtATime: no vote of several goroutines is lost or given twice, and each voter's stay in their order.
func TestP1VotesAtATime(t *testing.T) {
	const blocks = 25
	for range 5 {
		c := court(t, equals(12), chain(blocks)...)
		var wg sync.WaitGroup
		for voter := range 12 {
			wg.Go(func() {
				for b := range blocks {
					if e := c.Vote(voter, b, b+1); e != api.OK {
						t.Errorf("Vote(%d, %d, %d): %d", voter, b, b+1, e)
					}
					c.Just()
					c.Final()
					c.Guilty()
					c.Proof(b)
					goThrough(c.All())
				}
			})
		}
		wg.Wait()
		var next [12]int
		for v := range c.All() {
			if v.Source != next[v.Voter] {
				t.Fatalf("%v came after that from %d", v, next[v.Voter])
			}
			next[v.Voter]++
		}
		for voter, n := range next {
			if n != blocks {
				t.Errorf("of the voter %d there are %d votes", voter, n)
			}
		}
		equal(t, "Final", c.Final(), chain(blocks)...)
	}
}

// TestP1ShownAtATime: whenever they are asked for, each proof is right, and each guilt of votes that were given.
func TestP1ShownAtATime(t *testing.T) {
	const blocks = 12
	parents := chain(blocks)
	c := court(t, equals(6), parents...)
	var wg sync.WaitGroup
	for voter := range 6 {
		wg.Go(func() {
			for b := range blocks {
				c.Vote(voter, b, b+1)
				c.Vote(voter, 0, b+1)
			}
		})
		wg.Go(func() {
			for b := range blocks {
				final := slices.Contains(c.Final(), b)
				proof, e := c.Proof(b)
				if e == api.OK {
					rightProof(t, equals(6), parents, b, proof)
				} else if final || e != api.ErrNone {
					t.Errorf("Proof(%d): %d, and final is %v", b, e, final)
				}
				guilty := c.Guilty()
				all := slices.Collect(c.All())
				for _, g := range guilty {
					if one, other := slices.Index(all, g.One), slices.Index(all, g.Other); one < 0 || other <= one {
						t.Errorf("%v: its votes are at %d and %d", g, one, other)
					}
				}
			}
		})
	}
	wg.Wait()
	if n := len(c.Guilty()); n != 6 {
		t.Errorf("%d are guilty", n)
	}
}

// TestP1OneOfTheSame: of many who do the same at a time, as many have their way as if each came alone.
func TestP1OneOfTheSame(t *testing.T) {
	for range 50 {
		c := court(t, equals(1), 0)
		var votes [8]api.Errno
		var blocks [8][8]int
		var wg sync.WaitGroup
		for i := range 8 {
			wg.Go(func() {
				votes[i] = c.Vote(0, 0, 1)
				for j := range 8 {
					blocks[i][j], _ = c.Block(0)
				}
			})
		}
		wg.Wait()
		given, laid := 0, map[int]int{}
		for i := range 8 {
			if votes[i] == api.OK {
				given++
			} else if votes[i] != api.ErrTwice {
				t.Errorf("Vote: %d", votes[i])
			}
			for _, b := range blocks[i] {
				laid[b]++
			}
		}
		if given != 1 {
			t.Errorf("one vote was given %d times", given)
		}
		for b := 2; b < api.MaxBlocks; b++ {
			if laid[b] != 1 {
				t.Errorf("the block %d was laid %d times", b, laid[b])
			}
		}
		if laid[0] != 8*8-(api.MaxBlocks-2) {
			t.Errorf("%d blocks were refused", laid[0])
		}
	}
}

// TestP1AskedWhileAll: each call, while the votes are gone through, and All gives those of its beginning.
func TestP1AskedWhileAll(t *testing.T) {
	c := court(t, equals(3), 0, 1)
	vote(t, c, api.Vote{Voter: 0, Source: 0, Target: 1}, api.Vote{Voter: 1, Source: 0, Target: 1})
	all := c.All()
	vote(t, c, api.Vote{Voter: 2, Source: 0, Target: 1})
	var got []api.Vote
	for v := range all {
		got = append(got, v)
		vote(t, c, api.Vote{Voter: v.Voter, Source: 1, Target: 2})
		if n, e := c.Block(2); n != 2+len(got) || e != api.OK {
			t.Errorf("Block within All: %d, %d", n, e)
		}
		equal(t, "Final within All", c.Final(), []int{0, 1}[:len(got)]...)
		c.Just()
		c.Guilty()
		if proof, e := c.Proof(0); fmt.Sprint(proof, e) != "[{0 1 [0 1 2]}] 0" {
			t.Errorf("Proof within All: %v, %d", proof, e)
		}
		goThrough(c.All())
	}
	if s := fmt.Sprint(got); s != "[{0 0 1} {1 0 1}]" {
		t.Errorf("All gave %s", s)
	}
	if s := fmt.Sprint(slices.Collect(c.All())); s != "[{0 0 1} {1 0 1} {2 0 1} {0 1 2} {1 1 2}]" {
		t.Errorf("All gives %s", s)
	}
}

// TestP1AllOfNoVotes: votes that come after All are not in what it answered, even if there were none.
func TestP1AllOfNoVotes(t *testing.T) {
	c := court(t, equals(1), 0)
	all := c.All()
	vote(t, c, api.Vote{Voter: 0, Source: 0, Target: 1})
	if got := slices.Collect(all); len(got) != 0 {
		t.Errorf("All gave %v", got)
	}
}

// TestP1AskedByOthersWhileAll: another goroutine may ask too, while one stays within All.
func TestP1AskedByOthersWhileAll(t *testing.T) {
	c := court(t, equals(2), 0)
	vote(t, c, api.Vote{Voter: 0, Source: 0, Target: 1})
	for range c.All() {
		done := make(chan api.Errno)
		go func() { done <- c.Vote(1, 0, 1) }()
		if e := <-done; e != api.OK {
			t.Errorf("Vote: %d", e)
		}
	}
}

// TestP1EachCallWaits: while one call has the mutex, no other one comes to its end.
func TestP1EachCallWaits(t *testing.T) {
	c := court(t, equals(1), 0)
	for name, call := range map[string]func(){
		"Block":             func() { c.Block(0) },
		"Vote":              func() { c.Vote(0, 0, 1) },
		"All":               func() { c.All() },
		"Just":              func() { c.Just() },
		"Final":             func() { c.Final() },
		"Guilty":            func() { c.Guilty() },
		"Proof":             func() { c.Proof(0) },
		"Proof of no block": func() { c.Proof(9) },
	} {
		ended := make(chan int)
		c.mutex.Lock()
		go func() {
			call()
			close(ended)
		}()
		select {
		case <-ended:
			t.Errorf("%s did not wait", name)
		case <-time.After(20 * time.Millisecond):
		}
		c.mutex.Unlock()
		<-ended
		if !c.mutex.TryLock() {
			t.Fatalf("%s kept the mutex", name)
		}
		c.mutex.Unlock()
	}
}
