"""Orders in which jobs go quickly through machines."""

from nearnought.bounds import MAX_AMOUNT, MAX_FEW, MAX_JOBS, MAX_MACHINES
from nearnought.chains import steady_order
from nearnought.errors import NoJobs, NotTwo, TooMany
from nearnought.forms import is_within


def is_job(value, machines):
    """Whether value is a job for so many machines."""
    if not isinstance(value, tuple) or len(value) != machines:
        return False
    return all([is_within(item, 0, MAX_AMOUNT) for item in value])


def jobs_error(value):
    """None for jobs, otherwise where they are wrong and what should be there."""
    if not isinstance(value, tuple) or len(value) > MAX_JOBS:
        return (None, "jobs")
    if not value:
        return None
    first = value[0]
    if not isinstance(first, tuple) or not 2 <= len(first) <= MAX_MACHINES:
        return (0, "job")
    for index, job in enumerate(value):
        if not is_job(job, len(first)):
            return (index, "job")
    return None


def machines_of(jobs):
    """How many machines the jobs go through."""
    return len(jobs[0]) if jobs else 2


def job_ends(job, free):
    """When the job is done on each machine, if each is free from the time told on."""
    done, found = 0, []
    for amount, since in zip(job, free):
        done = max(done, since) + amount
        found.append(done)
    return tuple(found)


def ends(jobs, order):
    """For each job, in the order's order, when it is done on each machine."""
    free, found = (0,) * machines_of(jobs), []
    for index in order:
        free = job_ends(jobs[index], free)
        found.append(free)
    return tuple(found)


def length(jobs, order):
    """When all jobs are done."""
    return max([done[-1] for done in ends(jobs, order)], default=0)


def works(jobs):
    """The work of each machine."""
    return [sum([job[machine] for job in jobs]) for machine in range(machines_of(jobs))]


def busiest(jobs):
    """The greatest work of a machine."""
    return max(works(jobs))


def longest(jobs):
    """The greatest amount, 0 without jobs."""
    return max([max(job) for job in jobs], default=0)


def two_order(jobs):
    """Any order of the least length of all, for two machines."""
    machines = machines_of(jobs)
    if machines != 2:
        raise NotTwo(machines)
    # Those that soon leave the first machine come first, those that soon leave the second one come last.
    first = sorted([(job[0], index) for index, job in enumerate(jobs) if job[0] < job[1]])
    last = sorted([(-job[1], index) for index, job in enumerate(jobs) if job[0] >= job[1]])
    return tuple([index for _, index in first + last])


def raised(amounts, work, most):
    """The amounts raised to at most this most, so that their sum is the work."""
    found, missing = [], work - sum(amounts)
    for amount in amounts:
        more = min(most - amount, missing)
        missing = missing - more
        found.append(amount + more)
    return found


def steady_jobs(jobs):
    """Any order whose length is at most busiest + machines * (machines - 1) * longest."""
    machines = machines_of(jobs)
    work, most = busiest(jobs), longest(jobs)
    # Raised amounts take no less time. With the same work for all machines, what each has done more than the next one
    # comes to a nought; kept low all along, no machine waits long.
    lines = [raised([job[machine] for job in jobs], work, most) for machine in range(machines)]
    columns = list(zip(*lines))
    rows = [tuple([one - other for one, other in zip(column, column[1:])]) for column in columns]
    return steady_order((machines - 1, tuple(rows)))


def all_orders(many):
    """All orders of so many jobs, ascending."""
    found = [()]
    for _ in range(many):
        found = [order + (index,) for order in found for index in range(many) if index not in order]
    return found


def best_jobs(jobs):
    """The first order with the least length."""
    if len(jobs) > MAX_FEW:
        raise TooMany(MAX_FEW)
    return min([(length(jobs, order), order) for order in all_orders(len(jobs))])[1]


def way_length(jobs, order, places):
    """The sum of the amounts on the way that changes from each machine to the next one at its place."""
    total, start = 0, 0
    for machine, stop in enumerate(places + (len(order) - 1,)):
        total = total + sum([jobs[index][machine] for index in order[start:stop + 1]])
        start = stop
    return total


def long_way(jobs, order):
    """Any places with the greatest way_length."""
    if not jobs:
        raise NoJobs()
    done = ends(jobs, order)
    places, place = (), len(order) - 1
    # From the end back: to the job ahead while it is the machine that was waited for, then to the machine ahead.
    for machine in reversed(range(1, machines_of(jobs))):
        while place > 0 and done[place - 1][machine] > done[place][machine - 1]:
            place = place - 1
        places = (place,) + places
    return places
