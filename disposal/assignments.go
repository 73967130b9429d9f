package disposal

import (
	"slices"

	"draghead/api"
)

// job is batches that are assigned together to the pits of a yard, and their bulked volumes.
type job struct {
	api.Yard
	batches []api.Batch
	volumes []int
}

// pair is a batch and a pit.
type pair struct {
	batch int
	pit   string
}

// Assign returns an assignment, or a cut if there is none (P9.6).
func Assign(s api.Yard, l []api.Batch) ([]api.Allot, []int, api.Errno) {
	j, e := jobOf(s, l)
	if e != api.OK {
		return nil, nil, e
	}
	y := j.filled()
	if !y.isDone() {
		return nil, j.cut(y), api.ErrCapacity
	}
	return j.allots(y), nil, api.OK
}

// CheckShares accepts an assignment.
func CheckShares(s api.Yard, l []api.Batch, x []api.Allot) api.Errno {
	j, e := jobOf(s, l)
	if e != api.OK {
		return e
	}
	return proof(j.isAssignment(x))
}

// CheckCut accepts a cut.
func CheckCut(s api.Yard, l []api.Batch, cut []int) api.Errno {
	j, e := jobOf(s, l)
	if e != api.OK {
		return e
	}
	return proof(j.isCut(cut))
}

// proof returns what a check of a certificate tells.
func proof(isRight bool) api.Errno {
	if !isRight {
		return api.ErrProof
	}
	return api.OK
}

// jobOf returns a job, or the error of the list.
func jobOf(s api.Yard, l []api.Batch) (job, api.Errno) {
	if e := Check(s); e != api.OK {
		return job{}, e
	}
	if e := checkBatches(s, l, api.MaxBatches, func(b api.Batch) api.Errno { return checkNew(s, b) }); e != api.OK {
		return job{}, e
	}
	return job{s, l, bulkAll(s, l, s.Carry)}, api.OK
}

// accepts reports whether the pit with an index accepts the batch with one.
func (j job) accepts(pit, batch int) bool {
	return accepts(j.Pits[pit], j.batches[batch])
}

// batchOf returns the index of the batch with a number, or -1.
func (j job) batchOf(number int) int {
	return slices.IndexFunc(j.batches, func(b api.Batch) bool { return b.Number == number })
}

// rooms returns the rooms of the pits.
func (j job) rooms() []int {
	var out []int
	for _, p := range j.Pits {
		out = append(out, room(j.Yard, p))
	}
	return out
}

func (j job) isAssignment(x []api.Allot) bool {
	earlier := map[pair]bool{}
	left, rooms := slices.Clone(j.volumes), j.rooms()
	for _, a := range x {
		at := pair{a.Batch, a.Pit}
		batch, pit := j.batchOf(a.Batch), pitOf(j.Yard, a.Pit)
		if batch < 0 || pit < 0 || !j.accepts(pit, batch) || earlier[at] {
			return false
		}
		// A volume that is not too great for what is left makes no sum too great for an int.
		if !within(a.Volume, 1, min(left[batch], rooms[pit])) {
			return false
		}
		earlier[at] = true
		left[batch] -= a.Volume
		rooms[pit] -= a.Volume
	}
	return !slices.ContainsFunc(left, func(n int) bool { return n > 0 })
}

func (j job) isCut(cut []int) bool {
	isIn := make([]bool, len(j.batches))
	volume := 0
	for _, number := range cut {
		batch := j.batchOf(number)
		if batch < 0 || isIn[batch] {
			return false
		}
		isIn[batch] = true
		volume += j.volumes[batch]
	}
	return volume > j.roomFor(isIn)
}

// roomFor returns the room of all pits that accept at least one of the batches.
func (j job) roomFor(isIn []bool) int {
	sum := 0
	for pit, n := range j.rooms() {
		for batch := range j.batches {
			if isIn[batch] && j.accepts(pit, batch) {
				sum += n
				break
			}
		}
	}
	return sum
}
