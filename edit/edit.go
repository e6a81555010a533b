// Package edit changes the records of threads in their place.
package edit

import (
	"seisin/api"
	"seisin/thread"
)

// Thread changes the record of a thread, and reports whether it could: there
// is such a thread, and what came of the record is valid.
func Thread(x *thread.Threads, id int, by func(*api.Thread)) bool {
	t, ok := x.Get(id)
	if !ok {
		return false
	}
	by(&t)
	return x.Set(t) == api.OK
}
