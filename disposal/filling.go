package disposal

import (
	"cmp"
	"slices"

	"draghead/api"
)

// yard is a yard in which batches are being assigned. It holds nothing but arrays, so that two yards are compared as whole structs.
type yard struct {
	left    [api.MaxBatches]int              // what of each batch has no pit yet
	rooms   [api.MaxPits]int                 // what each pit can still take
	amounts [api.MaxBatches][api.MaxPits]int // what of each batch is assigned to each pit
}

// nowhere is where a batch comes from that is not moved out of a pit, and where one is that is not reached.
const nowhere = -1

// search is what can be reached from the batches that have something left: from a batch the pits that accept it, and from a pit the batches that are in it.
type search struct {
	batches []int                // in the order in which they are reached
	isIn    [api.MaxBatches]bool // whether a batch is reached
	from    [api.MaxBatches]int  // the pit from which it is, or nowhere
	by      [api.MaxPits]int     // the batch from which a pit is reached, or nowhere
}

// move is a part of a batch that goes to a pit, out of another one or from nowhere.
type move struct{ batch, to, from int }

// filled returns the yard with as much of the batches as possible in its pits, in the cheapest way.
func (j job) filled() yard {
	var y yard
	copy(y.left[:], j.volumes)
	copy(y.rooms[:], j.rooms())
	// What a cheaper pit holds stays with it when dearer ones are filled, though it may be of other batches then. So each pit takes in its turn as much as it ever can beside the cheaper ones, and no dearer pit holds anything for which there was a way into a cheaper one.
	for _, pit := range j.byPrice() {
		for next := j.poured(y, pit); next != y; next = j.poured(y, pit) {
			y = next
		}
	}
	return y
}

// byPrice returns the indices of the pits by their prices.
func (j job) byPrice() []int {
	var out []int
	for pit := range j.Pits {
		out = append(out, pit)
	}
	slices.SortStableFunc(out, func(a, b int) int { return cmp.Compare(j.Pits[a].Price, j.Pits[b].Price) })
	return out
}

// poured returns the yard in which one pit has more, and no other one has less; the same yard if there is no way to that.
func (j job) poured(y yard, pit int) yard {
	// The ways are shortest ones, so that their number does not depend on the volumes.
	moves := j.search(y).wayTo(pit)
	if len(moves) == 0 {
		return y
	}
	amount := y.rooms[pit]
	for _, m := range moves {
		amount = min(amount, *y.source(m))
	}
	for _, m := range moves {
		*y.source(m) -= amount
		y.amounts[m.batch][m.to] += amount
	}
	y.rooms[pit] -= amount
	return y
}

// source is where what is moved comes from.
func (y *yard) source(m move) *int {
	if m.from == nowhere {
		return &y.left[m.batch]
	}
	return &y.amounts[m.batch][m.from]
}

func (y yard) isDone() bool {
	return y.left == [api.MaxBatches]int{}
}

func (j job) search(y yard) search {
	s := newSearch()
	for batch := range j.batches {
		if y.left[batch] > 0 {
			s.add(batch, nowhere)
		}
	}
	for k := 0; k < len(s.batches); k++ { // the list grows
		for pit := range j.Pits {
			if s.by[pit] == nowhere && j.accepts(pit, s.batches[k]) {
				s.by[pit] = s.batches[k]
				s.addAll(y, pit)
			}
		}
	}
	return s
}

func newSearch() search {
	var s search
	for pit := range s.by {
		s.by[pit] = nowhere
	}
	return s
}

// add takes up a batch that is reached from a pit, unless it has been reached before.
func (s *search) add(batch, from int) {
	if !s.isIn[batch] {
		s.isIn[batch] = true
		s.from[batch] = from
		s.batches = append(s.batches, batch)
	}
}

// addAll takes up the batches that are in a pit.
func (s *search) addAll(y yard, pit int) {
	for batch, amounts := range y.amounts {
		if amounts[pit] > 0 {
			s.add(batch, pit)
		}
	}
}

// wayTo returns the moves after which a pit has more, the last one first; none if it is not reached.
func (s search) wayTo(pit int) []move {
	var out []move
	for pit != nowhere && s.by[pit] != nowhere {
		m := move{s.by[pit], pit, s.from[s.by[pit]]}
		out = append(out, m)
		pit = m.from
	}
	return out
}

// cut returns the numbers of the batches that are reached in a filled yard: all pits that accept one of them are full, and hold nothing but these batches.
func (j job) cut(y yard) []int {
	var out []int
	for _, batch := range j.search(y).batches {
		out = append(out, j.batches[batch].Number)
	}
	slices.Sort(out)
	return out
}

// allots returns the assignment of a filled yard.
func (j job) allots(y yard) []api.Allot {
	var out []api.Allot
	for batch, b := range j.batches {
		for pit, p := range j.Pits {
			if n := y.amounts[batch][pit]; n > 0 {
				out = append(out, api.Allot{Batch: b.Number, Pit: p.Name, Volume: n})
			}
		}
	}
	return out
}
