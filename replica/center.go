package replica

// center is what a center has so far.
type center struct {
	needed  int            // no more are taken; a center of fewer hosts runs out of them by itself, so they needn't be counted
	has     int            // how many hosts were taken
	racks   map[string]int // 1 for each rack of which a host was taken, 0 for each other one
	waiting []string       // hosts that came while their rack had one already and another rack had none
}

// offer hands over the walk's next host of the center. Answered are those that are taken by then, in order.
func (c *center) offer(s Site) []string {
	if c.has >= c.needed {
		return nil
	}
	if c.allRacks() {
		return c.take(s.Host)
	}
	if c.racks[s.Rack] > 0 {
		c.waiting = append(c.waiting, s.Host)
		return nil
	}
	c.racks[s.Rack] = 1
	taken := c.take(s.Host)
	if c.allRacks() {
		taken = append(taken, c.take(c.waiting...)...)
	}
	return taken
}

// allRacks tells whether hosts of all racks were taken.
func (c *center) allRacks() bool {
	for _, taken := range c.racks {
		if taken == 0 {
			return false
		}
	}
	return true
}

// take takes hosts in order, as long as fewer than needed are.
func (c *center) take(hosts ...string) []string {
	hosts = hosts[:min(len(hosts), c.needed-c.has)]
	c.has += len(hosts)
	return hosts
}
