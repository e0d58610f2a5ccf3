package schedule

import "sandpile/api"

// Settle fires unstable vertices, as picks choose them, until there is none, and returns the stable configuration, and how often each vertex has fired.
func Settle(g api.Graph, q int, d api.Divisor, picks []int) (api.Divisor, api.Script, api.Errno) {
	r, e := picked(g, q, d, picks)
	if e != api.OK {
		return nil, nil, e
	}
	if !exhaust(picks, vertices{r, r.fire}) {
		return nil, nil, api.ErrLimit
	}
	return r.result()
}

// Drift does so, too, but lets chips be on their way until picks choose them; it also returns how many have been on their way at once.
func Drift(g api.Graph, q int, d api.Divisor, picks []int) (api.Divisor, api.Script, int, api.Errno) {
	r, e := picked(g, q, d, picks)
	if e != api.OK {
		return nil, nil, 0, e
	}
	w := &way{run: r}
	if !exhaust(picks, vertices{r, w.send}, w) {
		return nil, nil, 0, api.ErrLimit
	}
	stable, script, e := r.result()
	if e != api.OK {
		return nil, nil, 0, e
	}
	return stable, script, w.most, api.OK
}

// picked returns the run that begins with a configuration, and in which picks choose.
func picked(g api.Graph, q int, d api.Divisor, picks []int) (*run, api.Errno) {
	r, e := newRun(g, q, d)
	if e != api.OK {
		return nil, e
	}
	if e := checkPicks(picks); e != api.OK {
		return nil, e
	}
	return r, api.OK
}

// checkPicks returns OK for picks that are neither too many nor none, and not negative.
func checkPicks(picks []int) api.Errno {
	if len(picks) > api.MaxEvents {
		return api.ErrMany
	}
	if len(picks) == 0 {
		return api.ErrEmpty
	}
	for _, value := range picks {
		if value < 0 {
			return api.ErrRange
		}
	}
	return api.OK
}
