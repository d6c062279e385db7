package method

import "sync"

// leastCoded is how few bytes a method but Stored may have: Lz one for its Params, and the five of a coder without a step.
const leastCoded = 6

// trial of a method, as Code tells it.
type trial struct {
	data string
	ok   bool
}

// Try all methods: the one with the fewest bytes, and these.
func Try(s string, o Options) (uint8, string) {
	var workers sync.WaitGroup
	defer workers.Wait()
	// A worker that nobody waits for any more must see it ahead of the Wait, which would else never end.
	left := make(chan struct{})
	defer close(left)
	var trials [methods]<-chan trial
	for m := range trials {
		trials[m] = begin(&workers, left, func() (string, bool) { return Code(s, uint8(m), o) })
	}
	return best(s, trials)
}

// begin a worker, that tells its trial, unless nobody waits for it any more.
func begin(workers *sync.WaitGroup, left <-chan struct{}, code func() (string, bool)) <-chan trial {
	told := make(chan trial)
	workers.Add(1)
	go func() {
		defer workers.Done()
		data, ok := code()
		select {
		case told <- trial{data, ok}:
		case <-left:
		}
	}()
	return told
}

// best of the trials of a text, asked from the least method on, so that of several the least one stays.
func best(s string, trials [methods]<-chan trial) (uint8, string) {
	method, data := Stored, s
	for m, told := range trials {
		// What is as short as that no other one beats.
		if len(data) <= leastCoded {
			break
		}
		if t := <-told; t.ok && len(t.data) < len(data) {
			method, data = m, t.data
		}
	}
	return uint8(method), data
}
